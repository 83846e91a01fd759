import PyProof.Rows.All
import Wide.All
import OpenK.AllK
import Wide.FinOn
import Lean
import PyProof.EqAt
import PyProof.EqKinds
import PyProof.TupleCall
import PySem.Challenge.RW_fivefields_k66_whole_alike_sheets
set_option maxHeartbeats 4000000
set_option compiler.extract_closed false
namespace Hd
open PySem PySem.W PySem.Calls PyProof.Rows
section
set_option maxHeartbeats 0
set_option maxRecDepth 100000
set_option linter.all false
theorem ws:OpenLaw.wellSaid PySem.Challenge.rw_fivefields_k66_whole_alike_sheets=true:=by
 delta OpenLaw.wellSaid
 with_reducible refine look_both (look_both (look_both (look_both (look_both (look_both (look_both (look_both (look_both (look_both (look_both (look_both (look_both (look_both (look_both (look_both (look_both (look_both ?_ ?_) ?_) ?_) ?_) ?_) ?_) ?_) ?_) ?_) ?_) ?_) ?_) ?_) ?_) ?_) ?_) ?_) ?_
 ·delta OpenRow.wellSaid
  with_reducible refine look_both (look_both ?_ ?_) ?_
  ·delta OpenRow.partSaid
   with_reducible refine look_both (look_both (look_both (look_both (look_both (look_both (look_both (look_both (look_both (look_both (look_both (look_both ?_ ?_) ?_) ?_) ?_) ?_) ?_) ?_) ?_) ?_) ?_) ?_) ?_
   ·delta looksOpen
    with_reducible refine look_both (look_both (look_both (look_both (look_both ?_ ?_) ?_) ?_) ?_) ?_
    all_goals decide +kernel
   all_goals decide +kernel
  all_goals decide +kernel
 all_goals decide +kernel
noncomputable section
noncomputable abbrev pw:Program:=PySem.Challenge.pw_fivefields_k66_whole_alike_sheets
noncomputable abbrev bi:List Stmt:=behindTheImports pw
noncomputable def nth:List Stmt->Nat->Stmt
 |s::_,0=>s
 |_::r,n+1=>nth r n
 |[],_=>.Pass default
noncomputable def tp(i:Nat):Stmt:=nth pw.main.body i
noncomputable def bd:Stmt->List Stmt
 |.FunctionDef _ _ b _ _ _ _ _ _ _=>b
 |.ClassDef _ _ _ b _ _ _ _ _ _ _=>b
 |_=>[]
noncomputable def ag:Stmt->Arguments
 |.FunctionDef _ a _ _ _ _ _ _ _ _=>a
 |_=>⟨[],[],none,[],[],none,[]⟩
noncomputable def sc:Stmt->Scope
 |.FunctionDef _ _ _ _ _ _ s _ _ _=>s
 |.ClassDef _ _ _ _ _ _ s _ _ _ _=>s
 |_=>pw.main.scope
noncomputable def r(a:Addr):Value:=.ref a
noncomputable def i(n:Int):Value:=.int n 0
noncomputable def de(P:Params)(k:Str)(t:Tok)(v:Value):DictEntry:=⟨PyData.keyHash P k,.str k t,v⟩
noncomputable def tu(l:List Value):Obj:=⟨.type "tuple",none,.seq l.toArray 0,#[]⟩
noncomputable def di(l:List DictEntry)(n:Nat):Obj:=⟨.type "dict",none,.dict l.toArray n,#[]⟩
noncomputable def co(l:List Value):Obj:=⟨.type "code",none,.fields l.toArray,#[]⟩
noncomputable def fd(l:List Value):Obj:=⟨.none,none,.fields l.toArray,#[]⟩
noncomputable def lf(x:Obj):BT:=.node x .nil .nil
noncomputable abbrev nd:Obj->BT->BT->BT:=BT.node
noncomputable def sf(t:Tok):Value:=.str "/claim/cut.py" t
noncomputable def fz(n q:Str)(s:Stmt):Obj:=⟨.none,none,.func ⟨n,q,ag s,.stmts (bd s),sc s,0,[],.none,.none,.none,.none,none,.none,.none,0⟩,#[]⟩
noncomputable def fn(n q:Str)(s:Stmt)(g:Addr)(c:List (Str×Addr))(d k o m:Value)(a:Option Addr)(x y:Value)(b:Addr):Obj:=⟨.type "function",none,.func ⟨n,q,ag s,.stmts (bd s),sc s,g,c,d,k,o,m,a,x,y,b⟩,#[]⟩
noncomputable def ib(s:Stmt)(i:Nat):Stmt:=nth (bd s) i
noncomputable def ev:Env:={scope:=pw.main.scope,locals:=mainNs,globals:=mainNs,cells:=[],code:=(r 13),frame:=some 14}
noncomputable def cd:Code:=.body bi ev
noncomputable abbrev an:Option Value:=(some (r 6))
noncomputable abbrev bk:List Frame:=[topFrame ⟨0,0,0,0⟩]
def cO(n q:Str)(t l c x a u:Nat):Obj:=co [.str n t,.str q (t+1),sf (t+2),i (Int.ofNat l),i (Int.ofNat c),i 0,i 0,i (Int.ofNat x),r a,.bool true,i 181,r (a+1),.none,r (a+2),r (a+3),r (a+4),i (Int.ofNat u),i (Int.ofNat l),sf (u+1)]
def cP(n:Str)(t l c x a u:Nat):Obj:=cO n n t l c x a u
def cK(n q:Str)(t l a u:Nat):Obj:=co [.str n t,.str q (t+1),sf (t+2),i (Int.ofNat l),i 0,i 0,i 0,i 0,r a,.bool false,i 181,r (a+1),.none,.none,.none,.none,i (Int.ofNat u),i (Int.ofNat l),sf (u+1)]
def fQ(n q:Str)(s:Stmt)(m:Value)(a:Addr):Obj:=fn n q s 3 [] .none .none .none m none (r a) .none 0
def fP(n:Str)(k:Nat)(m:Value)(a:Addr):Obj:=fQ n n (tp k) m a
def fY(n:Str)(k:Nat):Obj:=fz n n (tp k)
def fS(n q:Str)(s z:Stmt)(m:Value)(a:Addr):Obj:=⟨(.type "function"),none,(.func ⟨n,q,ag s,.stmts (bd s),sc z,3,[],.none,.none,.none,m,none,r a,.none,0⟩),#[]⟩
def fT(n q:Str)(s z:Stmt):Obj:=⟨.none,none,(.func ⟨n,q,ag s,.stmts (bd s),sc z,0,[],.none,.none,.none,.none,none,.none,.none,0⟩),#[]⟩
def ss:List Str->Nat->List Value
 |[],_=>[]
 |x::l,n=>.str x n::ss l (n+1)
def tS(n:Nat)(l:List Str):Obj:=tu (ss l n)
def dr(P:Params)(k:Str)(t:Tok)(a:Addr):DictEntry:=de P k t (r a)
def f3(k:Nat):List (Nat×Nat)->List Value
 |[]=>[]
 |(a,b)::l=>i (Int.ofNat a)::i (Int.ofNat k)::r b::f3 k l
def fD(k:Nat)(l:List (Nat×Nat)):Obj:=fd (f3 k l)
def fr(a b:Addr)(m:Value):Obj:=⟨(.type "frame"),none,.plain,#[some (r a),some (r 3),some (r b),none,some m,none,some (r 0)]⟩
def bm(s:String)(v:Value):Obj:=⟨(.type "builtin_function_or_method"),none,(.fields #[.builtin s,v]),#[]⟩
def sp2(l:List Obj):List Obj×List Obj:=List.rec ([],[]) (fun x _ p=>(x::p.2,p.1)) l
def brn:Nat->List Obj->BT
 |0,_=>.nil
 |_+1,[]=>.nil
 |n+1,x::l=>.node x (brn n (sp2 l).1) (brn n (sp2 l).2)
def su(a b c:Addr):Obj:=⟨(.type "super"),none,(.fields #[r a,r b,r c]),#[]⟩
def mv0:Value:=.str "fivefields.marks" 624
def mv1:Value:=.str "fivefields.errors" 194
def mv2:Value:=.str "fivefields.days" 305
def mv3:Value:=.str "fivefields.months" 426
def mv4:Value:=.str "fivefields.ranges" 463
def mv5:Value:=.str "fivefields.fields" 538
def mv6:Value:=.str "law_fivefields_k66_whole_alike_sheets" 1591
def mv7:Value:=.str "fivefields.rows" 1067
def mv8:Value:=.str "fivefields.books" 1243
def o0:=tu []
def o1:=fd []
def o2:=cK "<module>" "<module>" 182 1 11 185
def o3:Obj:=⟨(.type "frame"),none,.plain,#[(some (r 13)),(some (r 3)),(some (r 3)),none,(some (.str "__main__" 164)),none,(some (r 0))]⟩
def hA(P:Params):Heap:=⟨⟨[(boot_o_0 P),(boot_o_1 P),(boot_o_2 P),(boot_o_3 P),(boot_o_4 P),(boot_o_5 P),(boot_o_6 P),(boot_o_7 P),(boot_o_8 P),(boot_o_9 P),(boot_o_10 P),o0,o1,o2,o3]⟩,⟨[],[],[],0,[],[],false,#[],[],0,false,false,false,0,[2000,10,10],false,0,true,[],[],0,false⟩⟩
def sA(w:World)(os:OsState):Shared:=⟨hA w.params,#[],⟨0,0,0,0⟩,187,os⟩
theorem pre(w:World)(os:OsState):
  topGo treeTable pw w 11 an 12 ⟨boot_heap w.params,⟨[]⟩,boot_drawn,boot_toks,os⟩ (topStub pw) =
  some (sA w os,⟨denote treeTable cd,cd,⟨0,0,0,0⟩,bk⟩):=by kernel_rfl
def t0(P:Params):BT:=brn 5 [(boot_o_0 P),(boot_o_1 P),(boot_o_2 P),(boot_o_3 P),(boot_o_4 P),(boot_o_5 P),(boot_o_6 P),(boot_o_7 P),(boot_o_8 P),(boot_o_9 P),(boot_o_10 P),o0,o1,o2,o3]
def s0(w:World)(os:OsState):SharedT:=⟨t0 w.params,15,⟨[],[],[],0,[],[],false,#[],[],0,false,false,false,0,[2000,10,10],false,0,true,[],[],0,false⟩,#[],⟨0,0,0,0⟩,187,os⟩
theorem blk(w:World)(os:OsState):
  segRun treeTable pw w 11 an 1 1 (sA w os) (blockOf bi ev cd ⟨0,0,0,0⟩ bk) =
  some (.next,(s0 w os).abs,cd,⟨0,0,0,0⟩):=by kernel_rfl
def o4(P:Params):=di [de P "__name__" 165 mv0,de P "__doc__" 166 .none,de P "__package__" 167 .none,de P "__loader__" 168 (.builtin "__main__.__loader__#opaque"),de P "__spec__" 169 .none,dr P "__annotations__" 170 6,dr P "__builtins__" 171 4,de P "__file__" 173 (sf 172),de P "__cached__" 174 .none,dr P "_wall" 193 21,dr P "FieldError" 213 31,dr P "NoDay" 229 44,dr P "NoField" 254 63,dr P "NoRow" 279 82,dr P "NoBook" 295 94,dr P "is_whole" 304 103,dr P "MONTH_LASTS" 319 104,de P "ROUND_YEARS" 321 (.int 400 320),de P "ROUND_DAYS" 323 (.int 146097 322),dr P "is_long" 330 111,dr P "multiples_before" 338 118,dr P "days_before" 346 125,dr P "last_of" 354 132,dr P "is_date" 363 139,dr P "day_of" 369 144,dr P "year_of" 377 151,dr P "date_of" 387 158,dr P "weekday" 394 165,de P "FIGURES" 398 (.str "0123456789" 397),dr P "all_figures" 404 170,dr P "is_written" 411 177,de P "DAY_MINUTES" 415 (.int 1440 414),de P "HOUR_MINUTES" 417 (.int 60 416),dr P "parted" 425 184,de P "KINDS" 429 (.int 91 428),de P "LONG_PLACE" 431 (.int 12 430),de P "LONG_LAST" 433 (.int 29 432),de P "SHORT_YEAR" 435 (.int 1 434),dr P "kind_from" 445 191,dr P "kind_of" 453 198,dr P "month_at" 462 205,dr P "has" 472 212,dr P "starts_of" 478 217,dr P "end_from" 487 224,dr P "ranges_of" 493 229,dr P "shown_range" 501 236,dr P "shown_ranges" 507 241,dr P "add_stretch" 519 248,dr P "page_of" 531 255,dr P "sheet_of" 537 260,de P "MOST_SIGNS" 541 (.int 300 540),de P "MOST_ITEMS" 543 (.int 40 542),de P "MOST_STRIDE" 545 (.int 99 544),dr P "mask_of" 554 267,dr P "numbers_in" 560 272,dr P "run_mask" 569 279,dr P "read_number" 579 286,dr P "read_run" 585 291,dr P "read_strided" 598 298,dr P "read_item" 609 305,dr P "read_field" 623 312,de P "MOST_MARKS" 627 (.int 20 626),de P "MOST_DAY" 629 (.int 31 628),de P "MOST_BACK" 631 (.int 30 630),de P "MOST_NTH" 633 (.int 5 632),de P "SUNDAY" 635 (.int 0 634),de P "SATURDAY" 637 (.int 6 636),de P "SUNDAY_TOO" 639 (.int 7 638),de P "ALL_WEEKDAYS" 641 (.int 127 640),dr P "weekday_at" 649 319,dr P "all_days" 656 326,dr P "nearest_work" 666 333,dr P "first_one" 674 340,dr P "Mark" 710 364,dr P "Numbers" 751 399,dr P "Last" 793 433,dr P "Near" 834 466,dr P "LastWork" 866 492,dr P "Weekdays" 909 525,dr P "Nth" 953 558,dr P "LastOne" 994 591,dr P "any_days" 1005 600,dr P "read_day_mark" 1014 607] 83
def o5:=fD 0 [(1,20),(5,27),(7,40),(9,52),(13,71),(17,90),(20,102),(26,110),(28,117),(30,124),(33,131),(37,138),(41,143),(46,150),(51,157),(59,164),(63,169),(65,176),(70,183),(78,190),(81,197),(83,204),(90,211),(92,216),(95,223),(100,228),(102,235),(106,240),(109,247),(115,254),(120,259),(126,266),(131,271),(133,278),(135,285),(142,290),(149,297),(156,304),(164,311),(186,318),(188,325),(190,332),(197,339),(199,346),(206,374),(216,407),(230,441),(242,474),(249,500),(262,533),(276,566),(286,599),(291,606)]
def o6:=tS 190 ["k"]
def o7:=fY "_wall" 0
def o8:=cP "_wall" 187 1 1 3 15 191
def o9:=fn "_wall" "_wall" (tp 0) 3 [] .none .none .none (.str "__main__" 164) none (r 20) .none 0
def o10:=tu [(.type "ValueError")]
def o11:=bm "type.__prepare__" (.type "type")
def o12(P:Params):=di [de P "__module__" 203 mv1,de P "__qualname__" 205 (.str "FieldError" 204),de P "__firstlineno__" 207 (.int 5 206),dr P "__static_attributes__" 208 29] 4
def o13:=cK "FieldError" "FieldError" 198 5 25 201
def o14:=fr 27 24 mv1
def o15(P:Params):=di [de P "__module__" 203 mv1,de P "__firstlineno__" 207 (.int 5 206),dr P "__static_attributes__" 208 29,dr P "__weakref__" 210 32,de P "__doc__" 211 .none] 3
def o16:Obj:=⟨(.type "type"),none,(.cls ⟨"FieldError",[(.type "ValueError")],[(r 31),(.type "ValueError"),(.type "Exception"),(.type "BaseException"),(.type "object")],30,"FieldError",true,[],[(r 44),(r 63),(r 82),(r 94)],false,none,false⟩),#[(some (r 22)),none,(some (.str "FieldError" 196)),(some (.str "FieldError" 204)),(some (.builtin "ValueError.__new__")),(some (.bool true))]⟩
def o17:Obj:=⟨(.type "getset_descriptor"),none,(.fields #[(.str "__weakref__" 209),(r 31),(.builtin "ExceptionGroup.__weakref__"),.none]),#[]⟩
def o18:=su 31 31 31
def o19:=bm "object.__init_subclass__" (r 31)
def o20:=tu [(r 31)]
def o21(P:Params):=di [de P "__module__" 221 mv1,de P "__qualname__" 223 (.str "NoDay" 222),de P "__firstlineno__" 225 (.int 7 224),dr P "__static_attributes__" 226 42] 4
def o22:=cK "NoDay" "NoDay" 216 7 38 219
def o23:=fr 40 37 mv1
def o24(P:Params):=di [de P "__module__" 221 mv1,de P "__firstlineno__" 225 (.int 7 224),dr P "__static_attributes__" 226 42,de P "__doc__" 227 .none] 2
def o25:Obj:=⟨(.type "type"),none,(.cls ⟨"NoDay",[(r 31)],[(r 44),(r 31),(.type "ValueError"),(.type "Exception"),(.type "BaseException"),(.type "object")],43,"NoDay",true,[],[],false,none,false⟩),#[(some (r 35)),none,(some (.str "NoDay" 214)),(some (.str "NoDay" 222)),(some (.builtin "ValueError.__new__")),(some (.bool true))]⟩
def o26:=su 44 44 44
def o27:=bm "object.__init_subclass__" (r 44)
def o28(P:Params):=di [de P "__module__" 237 mv1,de P "__qualname__" 239 (.str "NoField" 238),de P "__firstlineno__" 241 (.int 9 240),dr P "__init__" 249 60,dr P "__static_attributes__" 251 61] 5
def o29:=fD 4 [(11,59)]
def o30:=cK "NoField" "NoField" 232 9 50 235
def o31:=fr 52 49 mv1
def o32:=tS 245 ["self","at"]
def o33:=fz "__init__" "NoField.__init__" (ib (tp 4) 0)
def o34:=cO "__init__" "NoField.__init__" 242 11 2 3 54 247
def o35:=fQ "__init__" "NoField.__init__" (ib (tp 4) 0) mv1 59
def o36:=tS 250 ["at"]
def o37(P:Params):=di [de P "__module__" 237 mv1,de P "__firstlineno__" 241 (.int 9 240),dr P "__init__" 249 60,dr P "__static_attributes__" 251 61,de P "__doc__" 252 .none] 2
def o38:Obj:=⟨(.type "type"),none,(.cls ⟨"NoField",[(r 31)],[(r 63),(r 31),(.type "ValueError"),(.type "Exception"),(.type "BaseException"),(.type "object")],62,"NoField",true,[],[],false,none,false⟩),#[(some (r 47)),none,(some (.str "NoField" 230)),(some (.str "NoField" 238)),(some (.builtin "ValueError.__new__")),(some (.bool true))]⟩
def o39:=su 63 63 63
def o40:=bm "object.__init_subclass__" (r 63)
def o41(P:Params):=di [de P "__module__" 262 mv1,de P "__qualname__" 264 (.str "NoRow" 263),de P "__firstlineno__" 266 (.int 13 265),dr P "__init__" 274 79,dr P "__static_attributes__" 276 80] 5
def o42:=fD 4 [(15,78)]
def o43:=cK "NoRow" "NoRow" 257 13 69 260
def o44:=fr 71 68 mv1
def o45:=tS 270 ["self","place"]
def o46:=fz "__init__" "NoRow.__init__" (ib (tp 5) 0)
def o47:=cO "__init__" "NoRow.__init__" 267 15 2 3 73 272
def o48:=fQ "__init__" "NoRow.__init__" (ib (tp 5) 0) mv1 78
def o49:=tS 275 ["place"]
def o50(P:Params):=di [de P "__module__" 262 mv1,de P "__firstlineno__" 266 (.int 13 265),dr P "__init__" 274 79,dr P "__static_attributes__" 276 80,de P "__doc__" 277 .none] 2
def o51:Obj:=⟨(.type "type"),none,(.cls ⟨"NoRow",[(r 31)],[(r 82),(r 31),(.type "ValueError"),(.type "Exception"),(.type "BaseException"),(.type "object")],81,"NoRow",true,[],[],false,none,false⟩),#[(some (r 66)),none,(some (.str "NoRow" 255)),(some (.str "NoRow" 263)),(some (.builtin "ValueError.__new__")),(some (.bool true))]⟩
def o52:=su 82 82 82
def o53:=bm "object.__init_subclass__" (r 82)
def o54(P:Params):=di [de P "__module__" 287 mv1,de P "__qualname__" 289 (.str "NoBook" 288),de P "__firstlineno__" 291 (.int 17 290),dr P "__static_attributes__" 292 92] 4
def o55:=cK "NoBook" "NoBook" 282 17 88 285
def o56:=fr 90 87 mv1
def o57(P:Params):=di [de P "__module__" 287 mv1,de P "__firstlineno__" 291 (.int 17 290),dr P "__static_attributes__" 292 92,de P "__doc__" 293 .none] 2
def o58:Obj:=⟨(.type "type"),none,(.cls ⟨"NoBook",[(r 31)],[(r 94),(r 31),(.type "ValueError"),(.type "Exception"),(.type "BaseException"),(.type "object")],93,"NoBook",true,[],[],false,none,false⟩),#[(some (r 85)),none,(some (.str "NoBook" 280)),(some (.str "NoBook" 288)),(some (.builtin "ValueError.__new__")),(some (.bool true))]⟩
def o59:=su 94 94 94
def o60:=bm "object.__init_subclass__" (r 94)
def o61:=tS 301 ["thing"]
def o62:=fY "is_whole" 8
def o63:=cP "is_whole" 298 20 1 3 97 302
def o64:=fn "is_whole" "is_whole" (tp 8) 3 [] .none .none .none (.str "fivefields.wholes" 296) none (r 102) .none 0
def o65:=tu [(.int 31 307),(.int 28 308),(.int 31 309),(.int 30 310),(.int 31 311),(.int 30 312),(.int 31 313),(.int 31 314),(.int 30 315),(.int 31 316),(.int 30 317),(.int 31 318)]
def o66:=tS 327 ["year"]
def o67:=fY "is_long" 13
def o68:=cP "is_long" 324 26 1 3 105 328
def o69:=fP "is_long" 13 mv2 110
def o70:=tS 334 ["year","step"]
def o71:=fY "multiples_before" 14
def o72:=cP "multiples_before" 331 28 2 3 112 336
def o73:=fP "multiples_before" 14 mv2 117
def o74:=tS 342 ["year","longs"]
def o75:=fY "days_before" 15
def o76:=cP "days_before" 339 30 1 3 119 344
def o77:=fP "days_before" 15 mv2 124
def o78:=tS 350 ["year","month"]
def o79:=fY "last_of" 16
def o80:=cP "last_of" 347 33 2 3 126 352
def o81:=fP "last_of" 16 mv2 131
def o82:=tS 358 ["year","month","day"]
def o83:=fY "is_date" 17
def o84:=cP "is_date" 355 37 3 3 133 361
def o85:=fP "is_date" 17 mv2 138
def o86:=fY "day_of" 18
def o87:=co [(.str "day_of" 364),(.str "day_of" 365),(sf 366),(i 41),(i 3),(i 0),(i 0),(i 3),(r 140),(.bool true),(i 181),(r 141),.none,.none,.none,(r 142),(i 367),(i 41),(sf 368)]
def o88:=fP "day_of" 18 mv2 143
def o89:=tS 373 ["day","year"]
def o90:=fY "year_of" 19
def o91:=cP "year_of" 370 46 1 3 145 375
def o92:=fP "year_of" 19 mv2 150
def o93:=tS 381 ["day","year","month","rest"]
def o94:=fY "date_of" 20
def o95:=cP "date_of" 378 51 1 3 152 385
def o96:=fP "date_of" 20 mv2 157
def o97:=tS 391 ["day"]
def o98:=fY "weekday" 21
def o99:=cP "weekday" 388 59 1 3 159 392
def aHR:=fP "weekday" 21 mv2 164
def aG2:=fY "all_figures" 24
def aJM:=co [(.str "all_figures" 399),(.str "all_figures" 400),(sf 401),(i 63),(i 1),(i 0),(i 0),(i 3),(r 166),(.bool true),(i 181),(r 167),.none,.none,.none,(r 168),(i 402),(i 63),(sf 403)]
def aPA:=fn "all_figures" "all_figures" (tp 24) 3 [] .none .none .none (.str "fivefields.figures" 395) none (r 169) .none 0
def aNG:=tS 408 ["text"]
def aM8:=fY "is_written" 25
def aNF:=cP "is_written" 405 65 1 3 171 409
def aGB:=fn "is_written" "is_written" (tp 25) 3 [] .none .none .none (.str "fivefields.figures" 395) none (r 176) .none 0
def aKI:=tS 421 ["moment","time"]
def aJW:=fY "parted" 29
def aOM:=cP "parted" 418 70 1 3 178 423
def aJI:=fn "parted" "parted" (tp 29) 3 [] .none .none .none (.str "fivefields.moments" 412) none (r 183) .none 0
def aO3:=tS 439 ["year","month","day","place"]
def aNS:=fY "kind_from" 35
def aIS:=cP "kind_from" 436 78 3 3 185 443
def aFW:=fP "kind_from" 35 mv3 190
def aMF:=tS 449 ["year","month"]
def aIC:=fY "kind_of" 36
def aHN:=cP "kind_of" 446 81 2 3 192 451
def aLJ:=fP "kind_of" 36 mv3 197
def aOH:=tS 457 ["kind","place","first"]
def aLX:=fY "month_at" 37
def aIV:=cP "month_at" 454 83 1 3 199 460
def aHU:=fP "month_at" 37 mv3 204
def aH4:=tS 468 ["mask","number"]
def aFU:=fY "has" 39
def aK0:=cP "has" 465 90 2 3 206 470
def aMX:=fP "has" 39 mv4 211
def aJD:=fY "starts_of" 40
def aMV:=co [(.str "starts_of" 473),(.str "starts_of" 474),(sf 475),(i 92),(i 1),(i 0),(i 0),(i 3),(r 213),(.bool true),(i 181),(r 214),.none,.none,.none,(r 215),(i 476),(i 92),(sf 477)]
def aJO:=fP "starts_of" 40 mv4 216
def aIJ:=tS 482 ["mask","start","end"]
def aGG:=fY "end_from" 41
def aL1:=cP "end_from" 479 95 2 3 218 485
def aMN:=fP "end_from" 41 mv4 223
def aNN:=fY "ranges_of" 42
def aOQ:=co [(.str "ranges_of" 488),(.str "ranges_of" 489),(sf 490),(i 100),(i 1),(i 0),(i 0),(i 3),(r 225),(.bool true),(i 181),(r 226),.none,.none,.none,(r 227),(i 491),(i 100),(sf 492)]
def aHO:=fP "ranges_of" 42 mv4 228
def aGQ:=tS 497 ["first","last"]
def aIY:=fY "shown_range" 43
def aFT:=cP "shown_range" 494 102 2 3 230 499
def aLW:=fP "shown_range" 43 mv4 235
def aMY:=fY "shown_ranges" 44
def aNM:=co [(.str "shown_ranges" 502),(.str "shown_ranges" 503),(sf 504),(i 106),(i 1),(i 0),(i 0),(i 3),(r 237),(.bool true),(i 181),(r 238),.none,.none,.none,(r 239),(i 505),(i 106),(sf 506)]
def aIF:=fP "shown_ranges" 44 mv4 240
def aNC:=tS 513 ["stretches","first","last","told"]
def aPK:=fY "add_stretch" 46
def aJZ:=cP "add_stretch" 510 109 4 3 242 517
def aKF:=fn "add_stretch" "add_stretch" (tp 46) 3 [] .none .none .none (.str "fivefields.papers" 508) none (r 247) .none 0
def aPD:=tS 525 ["days","stretches","day","times"]
def aHA:=fY "page_of" 48
def aIB:=cP "page_of" 522 115 1 3 249 529
def aGP:=fn "page_of" "page_of" (tp 48) 3 [] .none .none .none (.str "fivefields.sheets" 520) none (r 254) .none 0
def aNB:=fY "sheet_of" 49
def aO7:=co [(.str "sheet_of" 532),(.str "sheet_of" 533),(sf 534),(i 120),(i 1),(i 0),(i 0),(i 3),(r 256),(.bool true),(i 181),(r 257),.none,.none,.none,(r 258),(i 535),(i 120),(sf 536)]
def aHK:=fn "sheet_of" "sheet_of" (tp 49) 3 [] .none .none .none (.str "fivefields.sheets" 520) none (r 259) .none 0
def aF7:=tS 549 ["numbers","mask","number"]
def aJ0:=fY "mask_of" 54
def aOW:=cP "mask_of" 546 126 1 3 261 552
def aJG:=fP "mask_of" 54 mv5 266
def aK3:=fY "numbers_in" 55
def aLF:=co [(.str "numbers_in" 555),(.str "numbers_in" 556),(sf 557),(i 131),(i 1),(i 0),(i 0),(i 3),(r 268),(.bool true),(i 181),(r 269),.none,.none,.none,(r 270),(i 558),(i 131),(sf 559)]
def aG9:=fP "numbers_in" 55 mv5 271
def aF0:=tS 564 ["first","last","stride"]
def aN7:=fY "run_mask" 56
def aNH:=cP "run_mask" 561 133 3 3 273 567
def aMH:=fP "run_mask" 56 mv5 278
def aMI:=tS 573 ["text","low","high","number"]
def aML:=fY "read_number" 57
def aMQ:=cP "read_number" 570 135 3 3 280 577
def aJP:=fP "read_number" 57 mv5 285
def aJ6:=fY "read_run" 58
def aON:=co [(.str "read_run" 580),(.str "read_run" 581),(sf 582),(i 142),(i 3),(i 0),(i 0),(i 3),(r 287),(.bool true),(i 181),(r 288),.none,.none,.none,(r 289),(i 583),(i 142),(sf 584)]
def aGD:=fP "read_run" 58 mv5 290
def aPI:=tS 589 ["run_text","stride_text","low","high","run","stride","last"]
def aOX:=fY "read_strided" 59
def aNK:=cP "read_strided" 586 149 4 3 292 596
def aHY:=fP "read_strided" 59 mv5 297
def aJU:=tS 602 ["item","low","high","parts","run"]
def aJ1:=fY "read_item" 60
def aLR:=cP "read_item" 599 156 3 3 299 607
def aI3:=fP "read_item" 60 mv5 304
def aL6:=tS 613 ["text","low","high","items","mask","place","item","told"]
def aPH:=fY "read_field" 61
def aIA:=cP "read_field" 610 164 3 3 306 621
def aGF:=fP "read_field" 61 mv5 311
def aL2:=tS 645 ["day","first"]
def aL8:=fY "weekday_at" 71
def aMG:=cP "weekday_at" 642 186 2 3 313 647
def aMM:=fP "weekday_at" 71 mv0 318
def aPJ:=tS 653 ["last"]
def aJL:=fY "all_days" 72
def aPF:=cP "all_days" 650 188 1 3 320 654
def aHW:=fP "all_days" 72 mv0 325
def aMA:=tS 660 ["day","last","first","of_week"]
def aKJ:=fY "nearest_work" 73
def aLG:=cP "nearest_work" 657 190 3 3 327 664
def aOY:=fP "nearest_work" 73 mv0 332
def aMC:=tS 670 ["weekday","first"]
def aKX:=fY "first_one" 74
def aPM:=cP "first_one" 667 197 2 3 334 672
def aNP:=fP "first_one" 74 mv0 339
def aGJ(P:Params):=di [de P "__module__" 682 mv0,de P "__qualname__" 684 (.str "Mark" 683),de P "__firstlineno__" 686 (.int 199 685),dr P "days" 695 354,dr P "told" 702 361,dr P "__static_attributes__" 703 362] 6
def aOK:=fD 4 [(201,353),(204,360)]
def aFZ:=cK "Mark" "Mark" 677 199 344 680
def aOF:=fr 346 343 mv0
def aOI:=tS 690 ["self","last","first"]
def aLV:=fz "days" "Mark.days" (ib (tp 75) 0)
def aGL:=cO "days" "Mark.days" 687 201 3 3 348 693
def aLK:=fQ "days" "Mark.days" (ib (tp 75) 0) mv0 353
def aHC:=tS 699 ["self"]
def aKD:=fz "told" "Mark.told" (ib (tp 75) 1)
def aKG:=cO "told" "Mark.told" 696 204 1 3 355 700
def aKV:=fQ "told" "Mark.told" (ib (tp 75) 1) mv0 360
def aJ2(P:Params):=di [de P "__module__" 682 mv0,de P "__firstlineno__" 686 (.int 199 685),dr P "days" 695 354,dr P "told" 702 361,dr P "__static_attributes__" 703 362,dr P "__dict__" 705 365,dr P "__weakref__" 707 366,de P "__doc__" 708 .none] 4
def aHP:Obj:=⟨(.type "type"),none,(.cls ⟨"Mark",[(.type "object")],[(r 364),(.type "object")],363,"Mark",true,[],[(r 399),(r 433),(r 466),(r 492),(r 525),(r 558),(r 591)],false,none,false⟩),#[none,none,(some (.str "Mark" 675)),(some (.str "Mark" 683)),(some (.builtin "object.__new__")),(some (.bool true))]⟩
def aKH:Obj:=⟨(.type "getset_descriptor"),none,(.fields #[(.str "__dict__" 704),(r 364),(.builtin "function.__dict__"),(.builtin "function.__dict__#set")]),#[]⟩
def aH7:Obj:=⟨(.type "getset_descriptor"),none,(.fields #[(.str "__weakref__" 706),(r 364),(.builtin "ExceptionGroup.__weakref__"),.none]),#[]⟩
def aOD:=su 364 364 364
def aOV:=bm "object.__init_subclass__" (r 364)
def ahD:=tu [(r 364)]
def aLT(P:Params):=di [de P "__module__" 718 mv0,de P "__qualname__" 720 (.str "Numbers" 719),de P "__firstlineno__" 722 (.int 206 721),dr P "__init__" 730 382,dr P "days" 739 389,dr P "told" 746 396,dr P "__static_attributes__" 748 397] 7
def aKL:=fD 4 [(208,381),(211,388),(214,395)]
def aPN:=cK "Numbers" "Numbers" 713 206 372 716
def aK2:=fr 374 371 mv0
def aM3:=tS 726 ["self","mask"]
def aJ8:=fz "__init__" "Numbers.__init__" (ib (tp 76) 0)
def aNV:=cO "__init__" "Numbers.__init__" 723 208 2 3 376 728
def aI7:=fQ "__init__" "Numbers.__init__" (ib (tp 76) 0) mv0 381
def aIP:=tS 734 ["self","last","first"]
def aGM:=fz "days" "Numbers.days" (ib (tp 76) 1)
def aLS:=cO "days" "Numbers.days" 731 211 3 3 383 737
def aI2:=fQ "days" "Numbers.days" (ib (tp 76) 1) mv0 388
def aOG:=tS 743 ["self"]
def aGC:=fz "told" "Numbers.told" (ib (tp 76) 2)
def aI8:=cO "told" "Numbers.told" 740 214 1 3 390 744
def aKB:=fQ "told" "Numbers.told" (ib (tp 76) 2) mv0 395
def aJK:=tS 747 ["mask"]
def aIX(P:Params):=di [de P "__module__" 718 mv0,de P "__firstlineno__" 722 (.int 206 721),dr P "__init__" 730 382,dr P "days" 739 389,dr P "told" 746 396,dr P "__static_attributes__" 748 397,de P "__doc__" 749 .none] 2
def aKM:Obj:=⟨(.type "type"),none,(.cls ⟨"Numbers",[(r 364)],[(r 399),(r 364),(.type "object")],398,"Numbers",true,[],[],false,none,false⟩),#[(some (r 369)),none,(some (.str "Numbers" 711)),(some (.str "Numbers" 719)),(some (.builtin "object.__new__")),(some (.bool true))]⟩
def aKP:=su 399 399 399
def aHS:=bm "object.__init_subclass__" (r 399)
def aJN(P:Params):=di [de P "__module__" 759 mv0,de P "__qualname__" 761 (.str "Last" 760),de P "__firstlineno__" 763 (.int 216 762),dr P "__init__" 772 416,dr P "days" 781 423,dr P "told" 788 430,dr P "__static_attributes__" 790 431] 7
def aPO:=fD 4 [(218,415),(221,422),(226,429)]
def aNA:=cK "Last" "Last" 754 216 405 757
def aHJ:=fr 407 404 mv0
def aHF:=tu [(.int 0 764)]
def aLA:=tS 768 ["self","back"]
def aKR:=fz "__init__" "Last.__init__" (ib (tp 77) 0)
def aIW:=cO "__init__" "Last.__init__" 765 218 2 3 410 770
def aIK:=fn "__init__" "Last.__init__" (ib (tp 77) 0) 3 [] (r 409) .none .none mv0 none (r 415) .none 0
def aLB:=tS 776 ["self","last","first"]
def aKW:=fT "days" "Last.days" (ib (tp 77) 1) (ib (tp 75) 0)
def aLN:=cO "days" "Last.days" 773 221 3 3 417 779
def aGE:=fS "days" "Last.days" (ib (tp 77) 1) (ib (tp 75) 0) mv0 422
def aHV:=tS 785 ["self"]
def aLO:=fz "told" "Last.told" (ib (tp 77) 2)
def aGY:=cO "told" "Last.told" 782 226 1 3 424 786
def aNY:=fQ "told" "Last.told" (ib (tp 77) 2) mv0 429
def aKY:=tS 789 ["back"]
def aOE(P:Params):=di [de P "__module__" 759 mv0,de P "__firstlineno__" 763 (.int 216 762),dr P "__init__" 772 416,dr P "days" 781 423,dr P "told" 788 430,dr P "__static_attributes__" 790 431,de P "__doc__" 791 .none] 2
def aF8:Obj:=⟨(.type "type"),none,(.cls ⟨"Last",[(r 364)],[(r 433),(r 364),(.type "object")],432,"Last",true,[],[],false,none,false⟩),#[(some (r 402)),none,(some (.str "Last" 752)),(some (.str "Last" 760)),(some (.builtin "object.__new__")),(some (.bool true))]⟩
def aGK:=su 433 433 433
def aN0:=bm "object.__init_subclass__" (r 433)
def aJ5(P:Params):=di [de P "__module__" 801 mv0,de P "__qualname__" 803 (.str "Near" 802),de P "__firstlineno__" 805 (.int 230 804),dr P "__init__" 813 449,dr P "days" 822 456,dr P "told" 829 463,dr P "__static_attributes__" 831 464] 7
def aK4:=fD 4 [(232,448),(235,455),(240,462)]
def aLC:=cK "Near" "Near" 796 230 439 799
def aIU:=fr 441 438 mv0
def aIT:=tS 809 ["self","day"]
def aH3:=fz "__init__" "Near.__init__" (ib (tp 78) 0)
def aNL:=cO "__init__" "Near.__init__" 806 232 2 3 443 811
def aLP:=fQ "__init__" "Near.__init__" (ib (tp 78) 0) mv0 448
def aNI:=tS 817 ["self","last","first"]
def aNX:=fz "days" "Near.days" (ib (tp 78) 1)
def aFV:=cO "days" "Near.days" 814 235 3 3 450 820
def aJ4:=fQ "days" "Near.days" (ib (tp 78) 1) mv0 455
def aG4:=tS 826 ["self"]
def aHX:=fT "told" "Near.told" (ib (tp 78) 2) (ib (tp 77) 2)
def aJA:=cO "told" "Near.told" 823 240 1 3 457 827
def aID:=fS "told" "Near.told" (ib (tp 78) 2) (ib (tp 77) 2) mv0 462
def aNJ:=tS 830 ["day"]
def aL7(P:Params):=di [de P "__module__" 801 mv0,de P "__firstlineno__" 805 (.int 230 804),dr P "__init__" 813 449,dr P "days" 822 456,dr P "told" 829 463,dr P "__static_attributes__" 831 464,de P "__doc__" 832 .none] 2
def aIE:Obj:=⟨(.type "type"),none,(.cls ⟨"Near",[(r 364)],[(r 466),(r 364),(.type "object")],465,"Near",true,[],[],false,none,false⟩),#[(some (r 436)),none,(some (.str "Near" 794)),(some (.str "Near" 802)),(some (.builtin "object.__new__")),(some (.bool true))]⟩
def aOL:=su 466 466 466
def aI1:=bm "object.__init_subclass__" (r 466)
def aGO(P:Params):=di [de P "__module__" 842 mv0,de P "__qualname__" 844 (.str "LastWork" 843),de P "__firstlineno__" 846 (.int 242 845),dr P "days" 855 482,dr P "told" 862 489,dr P "__static_attributes__" 863 490] 6
def aHG:=fD 4 [(244,481),(247,488)]
def aK6:=cK "LastWork" "LastWork" 837 242 472 840
def aHB:=fr 474 471 mv0
def aLZ:=tS 850 ["self","last","first"]
def aM6:=fT "days" "LastWork.days" (ib (tp 79) 0) (ib (tp 78) 1)
def aO9:=cO "days" "LastWork.days" 847 244 3 3 476 853
def aM9:=fS "days" "LastWork.days" (ib (tp 79) 0) (ib (tp 78) 1) mv0 481
def aLH:=tS 859 ["self"]
def aGX:=fT "told" "LastWork.told" (ib (tp 79) 1) (ib (tp 75) 1)
def aJ9:=cO "told" "LastWork.told" 856 247 1 3 483 860
def aMJ:=fS "told" "LastWork.told" (ib (tp 79) 1) (ib (tp 75) 1) mv0 488
def aI6(P:Params):=di [de P "__module__" 842 mv0,de P "__firstlineno__" 846 (.int 242 845),dr P "days" 855 482,dr P "told" 862 489,dr P "__static_attributes__" 863 490,de P "__doc__" 864 .none] 2
def aMB:Obj:=⟨(.type "type"),none,(.cls ⟨"LastWork",[(r 364)],[(r 492),(r 364),(.type "object")],491,"LastWork",true,[],[],false,none,false⟩),#[(some (r 469)),none,(some (.str "LastWork" 835)),(some (.str "LastWork" 843)),(some (.builtin "object.__new__")),(some (.bool true))]⟩
def aH8:=su 492 492 492
def aFX:=bm "object.__init_subclass__" (r 492)
def aIM(P:Params):=di [de P "__module__" 874 mv0,de P "__qualname__" 876 (.str "Weekdays" 875),de P "__firstlineno__" 878 (.int 249 877),dr P "__init__" 886 508,dr P "days" 897 515,dr P "told" 904 522,dr P "__static_attributes__" 906 523] 7
def aK1:=fD 4 [(251,507),(254,514),(260,521)]
def aOR:=cK "Weekdays" "Weekdays" 869 249 498 872
def aMZ:=fr 500 497 mv0
def aK9:=tS 882 ["self","mask"]
def aO4:=fT "__init__" "Weekdays.__init__" (ib (tp 80) 0) (ib (tp 76) 0)
def aL3:=cO "__init__" "Weekdays.__init__" 879 251 2 3 502 884
def aIL:=fS "__init__" "Weekdays.__init__" (ib (tp 80) 0) (ib (tp 76) 0) mv0 507
def aF2:=tS 890 ["self","last","first","weeks","week"]
def aI5:=fz "days" "Weekdays.days" (ib (tp 80) 1)
def aJQ:=cO "days" "Weekdays.days" 887 254 3 3 509 895
def aME:=fQ "days" "Weekdays.days" (ib (tp 80) 1) mv0 514
def aJT:=tS 901 ["self"]
def aHI:=fT "told" "Weekdays.told" (ib (tp 80) 2) (ib (tp 76) 2)
def aN8:=cO "told" "Weekdays.told" 898 260 1 3 516 902
def aLD:=fS "told" "Weekdays.told" (ib (tp 80) 2) (ib (tp 76) 2) mv0 521
def aNQ:=tS 905 ["mask"]
def aKC(P:Params):=di [de P "__module__" 874 mv0,de P "__firstlineno__" 878 (.int 249 877),dr P "__init__" 886 508,dr P "days" 897 515,dr P "told" 904 522,dr P "__static_attributes__" 906 523,de P "__doc__" 907 .none] 2
def aOZ:Obj:=⟨(.type "type"),none,(.cls ⟨"Weekdays",[(r 364)],[(r 525),(r 364),(.type "object")],524,"Weekdays",true,[],[],false,none,false⟩),#[(some (r 495)),none,(some (.str "Weekdays" 867)),(some (.str "Weekdays" 875)),(some (.builtin "object.__new__")),(some (.bool true))]⟩
def aM2:=su 525 525 525
def aJB:=bm "object.__init_subclass__" (r 525)
def aN1(P:Params):=di [de P "__module__" 917 mv0,de P "__qualname__" 919 (.str "Nth" 918),de P "__firstlineno__" 921 (.int 262 920),dr P "__init__" 930 541,dr P "days" 940 548,dr P "told" 947 555,dr P "__static_attributes__" 950 556] 7
def aM1:=fD 4 [(264,540),(268,547),(274,554)]
def aMW:=cK "Nth" "Nth" 912 262 531 915
def aGH:=fr 533 530 mv0
def aPC:=tS 925 ["self","weekday","many"]
def aPG:=fz "__init__" "Nth.__init__" (ib (tp 81) 0)
def aF9:=cO "__init__" "Nth.__init__" 922 264 3 3 535 928
def aM4:=fQ "__init__" "Nth.__init__" (ib (tp 81) 0) mv0 540
def aOP:=tS 934 ["self","last","first","day"]
def aNT:=fz "days" "Nth.days" (ib (tp 81) 1)
def aIO:=cO "days" "Nth.days" 931 268 3 3 542 938
def aIQ:=fQ "days" "Nth.days" (ib (tp 81) 1) mv0 547
def aGU:=tS 944 ["self"]
def aJC:=fT "told" "Nth.told" (ib (tp 81) 2) (ib (tp 77) 2)
def aO1:=cO "told" "Nth.told" 941 274 1 3 549 945
def aG5:=fS "told" "Nth.told" (ib (tp 81) 2) (ib (tp 77) 2) mv0 554
def aG3:=tS 948 ["many","weekday"]
def aOJ(P:Params):=di [de P "__module__" 917 mv0,de P "__firstlineno__" 921 (.int 262 920),dr P "__init__" 930 541,dr P "days" 940 548,dr P "told" 947 555,dr P "__static_attributes__" 950 556,de P "__doc__" 951 .none] 2
def aM0:Obj:=⟨(.type "type"),none,(.cls ⟨"Nth",[(r 364)],[(r 558),(r 364),(.type "object")],557,"Nth",true,[],[],false,none,false⟩),#[(some (r 528)),none,(some (.str "Nth" 910)),(some (.str "Nth" 918)),(some (.builtin "object.__new__")),(some (.bool true))]⟩
def aJ3:=su 558 558 558
def aH2:=bm "object.__init_subclass__" (r 558)
def aJV(P:Params):=di [de P "__module__" 961 mv0,de P "__qualname__" 963 (.str "LastOne" 962),de P "__firstlineno__" 965 (.int 276 964),dr P "__init__" 973 574,dr P "days" 982 581,dr P "told" 989 588,dr P "__static_attributes__" 991 589] 7
def aMK:=fD 4 [(278,573),(281,580),(284,587)]
def aOA:=cK "LastOne" "LastOne" 956 276 564 959
def aJJ:=fr 566 563 mv0
def aI4:=tS 969 ["self","weekday"]
def aHM:=fz "__init__" "LastOne.__init__" (ib (tp 82) 0)
def aJH:=cO "__init__" "LastOne.__init__" 966 278 2 3 568 971
def aJR:=fQ "__init__" "LastOne.__init__" (ib (tp 82) 0) mv0 573
def aMT:=tS 977 ["self","last","first"]
def aKK:=fz "days" "LastOne.days" (ib (tp 82) 1)
def aH6:=cO "days" "LastOne.days" 974 281 3 3 575 980
def aL5:=fQ "days" "LastOne.days" (ib (tp 82) 1) mv0 580
def aL9:=tS 986 ["self"]
def aK7:=fT "told" "LastOne.told" (ib (tp 82) 2) (ib (tp 77) 2)
def aG8:=cO "told" "LastOne.told" 983 284 1 3 582 987
def aG6:=fS "told" "LastOne.told" (ib (tp 82) 2) (ib (tp 77) 2) mv0 587
def aF6:=tS 990 ["weekday"]
def aN9(P:Params):=di [de P "__module__" 961 mv0,de P "__firstlineno__" 965 (.int 276 964),dr P "__init__" 973 574,dr P "days" 982 581,dr P "told" 989 588,dr P "__static_attributes__" 991 589,de P "__doc__" 992 .none] 2
def aG7:Obj:=⟨(.type "type"),none,(.cls ⟨"LastOne",[(r 364)],[(r 591),(r 364),(.type "object")],590,"LastOne",true,[],[],false,none,false⟩),#[(some (r 561)),none,(some (.str "LastOne" 954)),(some (.str "LastOne" 962)),(some (.builtin "object.__new__")),(some (.bool true))]⟩
def aOB:=su 591 591 591
def aJ7:=bm "object.__init_subclass__" (r 591)
def aOS:=tS 998 ["marks","last","first","mask","mark"]
def aK5:=fY "any_days" 83
def aMU:=cP "any_days" 995 286 3 3 594 1003
def aKA:=fP "any_days" 83 mv0 599
def aM7:=tS 1009 ["item","back","day"]
def aGA:=fY "read_day_mark" 84
def aGV:=cP "read_day_mark" 1006 291 1 3 601 1012
def aLM:=fP "read_day_mark" 84 mv0 606
def t1(P:Params):BT:=brn 11 [(boot_o_0 P),(boot_o_1 P),(boot_o_2 P),(o4 P),(boot_o_4 P),(boot_o_5 P),(boot_o_6 P),(boot_o_7 P),(boot_o_8 P),(boot_o_9 P),(boot_o_10 P),o0,o5,o2,o3,o0,o1,o6,o0,o7,o8,o9,o10,o11,(o12 P),o0,o1,o13,o14,o0,(o15 P),o16,o17,o18,o19,o20,o11,(o21 P),o0,o1,o22,o23,o0,(o24 P),o25,o26,o27,o20,o11,(o28 P),o0,o29,o30,o31,o0,o1,o32,o0,o33,o34,o35,o36,(o37 P),o38,o39,o40,o20,o11,(o41 P),o0,o42,o43,o44,o0,o1,o45,o0,o46,o47,o48,o49,(o50 P),o51,o52,o53,o20,o11,(o54 P),o0,o1,o55,o56,o0,(o57 P),o58,o59,o60,o0,o1,o61,o0,o62,o63,o64,o65,o0,o1,o66,o0,o67,o68,o69,o0,o1,o70,o0,o71,o72,o73,o0,o1,o74,o0,o75,o76,o77,o0,o1,o78,o0,o79,o80,o81,o0,o1,o82,o0,o83,o84,o85,o0,o1,o86,o87,o88,o0,o1,o89,o0,o90,o91,o92,o0,o1,o93,o0,o94,o95,o96,o0,o1,o97,o0,o98,o99,aHR,o0,o1,aG2,aJM,aPA,o0,o1,aNG,o0,aM8,aNF,aGB,o0,o1,aKI,o0,aJW,aOM,aJI,o0,o1,aO3,o0,aNS,aIS,aFW,o0,o1,aMF,o0,aIC,aHN,aLJ,o0,o1,aOH,o0,aLX,aIV,aHU,o0,o1,aH4,o0,aFU,aK0,aMX,o0,o1,aJD,aMV,aJO,o0,o1,aIJ,o0,aGG,aL1,aMN,o0,o1,aNN,aOQ,aHO,o0,o1,aGQ,o0,aIY,aFT,aLW,o0,o1,aMY,aNM,aIF,o0,o1,aNC,o0,aPK,aJZ,aKF,o0,o1,aPD,o0,aHA,aIB,aGP,o0,o1,aNB,aO7,aHK,o0,o1,aF7,o0,aJ0,aOW,aJG,o0,o1,aK3,aLF,aG9,o0,o1,aF0,o0,aN7,aNH,aMH,o0,o1,aMI,o0,aML,aMQ,aJP,o0,o1,aJ6,aON,aGD,o0,o1,aPI,o0,aOX,aNK,aHY,o0,o1,aJU,o0,aJ1,aLR,aI3,o0,o1,aL6,o0,aPH,aIA,aGF,o0,o1,aL2,o0,aL8,aMG,aMM,o0,o1,aPJ,o0,aJL,aPF,aHW,o0,o1,aMA,o0,aKJ,aLG,aOY,o0,o1,aMC,o0,aKX,aPM,aNP,o0,o11,(aGJ P),o0,aOK,aFZ,aOF,o0,o1,aOI,o0,aLV,aGL,aLK,o0,o1,aHC,o0,aKD,aKG,aKV,o0,(aJ2 P),aHP,aKH,aH7,aOD,aOV,ahD,o11,(aLT P),o0,aKL,aPN,aK2,o0,o1,aM3,o0,aJ8,aNV,aI7,o0,o1,aIP,o0,aGM,aLS,aI2,o0,o1,aOG,o0,aGC,aI8,aKB,aJK,(aIX P),aKM,aKP,aHS,ahD,o11,(aJN P),o0,aPO,aNA,aHJ,aHF,o0,o1,aLA,o0,aKR,aIW,aIK,o0,o1,aLB,o0,aKW,aLN,aGE,o0,o1,aHV,o0,aLO,aGY,aNY,aKY,(aOE P),aF8,aGK,aN0,ahD,o11,(aJ5 P),o0,aK4,aLC,aIU,o0,o1,aIT,o0,aH3,aNL,aLP,o0,o1,aNI,o0,aNX,aFV,aJ4,o0,o1,aG4,o0,aHX,aJA,aID,aNJ,(aL7 P),aIE,aOL,aI1,ahD,o11,(aGO P),o0,aHG,aK6,aHB,o0,o1,aLZ,o0,aM6,aO9,aM9,o0,o1,aLH,o0,aGX,aJ9,aMJ,o0,(aI6 P),aMB,aH8,aFX,ahD,o11,(aIM P),o0,aK1,aOR,aMZ,o0,o1,aK9,o0,aO4,aL3,aIL,o0,o1,aF2,o0,aI5,aJQ,aME,o0,o1,aJT,o0,aHI,aN8,aLD,aNQ,(aKC P),aOZ,aM2,aJB,ahD,o11,(aN1 P),o0,aM1,aMW,aGH,o0,o1,aPC,o0,aPG,aF9,aM4,o0,o1,aOP,o0,aNT,aIO,aIQ,o0,o1,aGU,o0,aJC,aO1,aG5,aG3,(aOJ P),aM0,aJ3,aH2,ahD,o11,(aJV P),o0,aMK,aOA,aJJ,o0,o1,aI4,o0,aHM,aJH,aJR,o0,o1,aMT,o0,aKK,aH6,aL5,o0,o1,aL9,o0,aK7,aG8,aG6,aF6,(aN9 P),aG7,aOB,aJ7,o0,o1,aOS,o0,aK5,aMU,aKA,o0,o1,aM7,o0,aGA,aGV,aLM]
def s1(w:World)(os:OsState):SharedT:=⟨t1 w.params,608,⟨[],[],[],0,[],[],false,#[],[],0,false,false,false,0,[2000,10,10],false,0,true,[],[],0,false⟩,#[],⟨0,0,0,0⟩,1015,os⟩
def l0:List Stmt:=(bi.drop 0).take 85
theorem r0(w:World)(os:OsState):
  segRunT treeTable pw w 11 an 1 4991 (s0 w os) (piecesOf l0 ev cd ⟨0,0,0,0⟩ bk) =
  some (.next,s1 w os,cd,⟨291,0,302,15⟩):=by kernel_rfl
def o372(P:Params):=di [de P "__name__" 165 mv6,de P "__doc__" 166 .none,de P "__package__" 167 .none,de P "__loader__" 168 (.builtin "__main__.__loader__#opaque"),de P "__spec__" 169 .none,dr P "__annotations__" 170 6,dr P "__builtins__" 171 4,de P "__file__" 173 (sf 172),de P "__cached__" 174 .none,dr P "_wall" 193 21,dr P "FieldError" 213 31,dr P "NoDay" 229 44,dr P "NoField" 254 63,dr P "NoRow" 279 82,dr P "NoBook" 295 94,dr P "is_whole" 304 103,dr P "MONTH_LASTS" 319 104,de P "ROUND_YEARS" 321 (.int 400 320),de P "ROUND_DAYS" 323 (.int 146097 322),dr P "is_long" 330 111,dr P "multiples_before" 338 118,dr P "days_before" 346 125,dr P "last_of" 354 132,dr P "is_date" 363 139,dr P "day_of" 369 144,dr P "year_of" 377 151,dr P "date_of" 387 158,dr P "weekday" 394 165,de P "FIGURES" 398 (.str "0123456789" 397),dr P "all_figures" 404 170,dr P "is_written" 411 177,de P "DAY_MINUTES" 415 (.int 1440 414),de P "HOUR_MINUTES" 417 (.int 60 416),dr P "parted" 425 184,de P "KINDS" 429 (.int 91 428),de P "LONG_PLACE" 431 (.int 12 430),de P "LONG_LAST" 433 (.int 29 432),de P "SHORT_YEAR" 435 (.int 1 434),dr P "kind_from" 445 191,dr P "kind_of" 453 198,dr P "month_at" 462 205,dr P "has" 472 212,dr P "starts_of" 478 217,dr P "end_from" 487 224,dr P "ranges_of" 493 229,dr P "shown_range" 501 236,dr P "shown_ranges" 507 241,dr P "add_stretch" 519 248,dr P "page_of" 531 255,dr P "sheet_of" 537 260,de P "MOST_SIGNS" 541 (.int 300 540),de P "MOST_ITEMS" 543 (.int 40 542),de P "MOST_STRIDE" 545 (.int 99 544),dr P "mask_of" 554 267,dr P "numbers_in" 560 272,dr P "run_mask" 569 279,dr P "read_number" 579 286,dr P "read_run" 585 291,dr P "read_strided" 598 298,dr P "read_item" 609 305,dr P "read_field" 623 312,de P "MOST_MARKS" 627 (.int 20 626),de P "MOST_DAY" 629 (.int 31 628),de P "MOST_BACK" 631 (.int 30 630),de P "MOST_NTH" 633 (.int 5 632),de P "SUNDAY" 635 (.int 0 634),de P "SATURDAY" 637 (.int 6 636),de P "SUNDAY_TOO" 639 (.int 7 638),de P "ALL_WEEKDAYS" 641 (.int 127 640),dr P "weekday_at" 649 319,dr P "all_days" 656 326,dr P "nearest_work" 666 333,dr P "first_one" 674 340,dr P "Mark" 710 364,dr P "Numbers" 751 399,dr P "Last" 793 433,dr P "Near" 834 466,dr P "LastWork" 866 492,dr P "Weekdays" 909 525,dr P "Nth" 953 558,dr P "LastOne" 994 591,dr P "any_days" 1005 600,dr P "read_day_mark" 1014 607,dr P "read_weekday" 1022 614,dr P "read_weekday_mark" 1032 621,dr P "read_items" 1049 628,dr P "read_days" 1057 635,dr P "read_weekdays" 1066 642,de P "MOST_ROW_SIGNS" 1070 (.int 1600 1069),de P "MINUTE" 1072 (.int 0 1071),de P "HOUR" 1074 (.int 1 1073),de P "DAY" 1076 (.int 2 1075),de P "MONTH" 1078 (.int 3 1077),de P "WEEKDAY" 1080 (.int 4 1079),de P "NO_PLACE" 1082 (.int 5 1081),dr P "BOUNDS" 1095 643,dr P "times_of" 1105 653,dr P "days_by" 1117 660,dr P "Row" 1219 738,dr P "read_word" 1228 749,dr P "read_at" 1236 756,dr P "read_row" 1242 761,de P "MOST_BOOKS" 1246 (.int 8 1245),de P "MOST_TALLY" 1248 (.int 24 1247),de P "MOST_DEPTH" 1250 (.int 5 1249),dr P "same_each_day" 1258 768,dr P "all_times" 1264 775,dr P "tally_of" 1270 780,dr P "depth_of" 1276 785,dr P "Book" 1326 823,dr P "checked" 1332 832,dr P "checked_list" 1339 839,dr P "Of" 1380 870,dr P "Joined" 1431 913,dr P "Met" 1482 956,dr P "Less" 1537 1001,dr P "Turned" 1590 1046,dr P "_law_cell_at" 1600 1055,dr P "_law_stir" 1609 1062,dr P "_law_digits" 1620 1069,dr P "_law_field" 1633 1076,dr P "_law_row" 1647 1083,dr P "_law_tree" 1653 1088,dr P "_law_make" 1659 1093,dr P "_law_joined" 1668 1100,dr P "_law_masks" 1674 1105,dr P "_law_pairs" 1684 1112,dr P "_law_rare" 1695 1119,dr P "_law_unlike" 1704 1126,dr P "law" 1710 1131] 130
def o373:=fD 0 [(1,20),(5,27),(7,40),(9,52),(13,71),(17,90),(20,102),(26,110),(28,117),(30,124),(33,131),(37,138),(41,143),(46,150),(51,157),(59,164),(63,169),(65,176),(70,183),(78,190),(81,197),(83,204),(90,211),(92,216),(95,223),(100,228),(102,235),(106,240),(109,247),(115,254),(120,259),(126,266),(131,271),(133,278),(135,285),(142,290),(149,297),(156,304),(164,311),(186,318),(188,325),(190,332),(197,339),(199,346),(206,374),(216,407),(230,441),(242,474),(249,500),(262,533),(276,566),(286,599),(291,606),(303,613),(306,620),(318,627),(336,634),(343,641),(360,652),(365,659),(373,666),(424,748),(431,755),(436,760),(447,767),(449,774),(451,779),(453,784),(455,791),(468,831),(476,838),(480,845),(492,878),(511,921),(530,964),(548,1009),(566,1054),(570,1061),(574,1068),(585,1075),(592,1082),(605,1087),(615,1092),(629,1099),(635,1104),(650,1111),(666,1118),(671,1125),(676,1130)]
def o374:=tS 1018 ["text","number"]
def o375:=fY "read_weekday" 85
def o376:=cP "read_weekday" 1015 303 1 3 608 1020
def o377:=fP "read_weekday" 85 mv0 613
def o378:=tS 1026 ["item","weekday","parts","many"]
def o379:=fY "read_weekday_mark" 86
def o380:=cP "read_weekday_mark" 1023 306 1 3 615 1030
def o381:=fP "read_weekday_mark" 86 mv0 620
def o382:=tS 1036 ["text","low","high","read_mark","items","mask","marks","place","item","plain","mark"]
def o383:=fY "read_items" 87
def o384:=cP "read_items" 1033 318 4 3 622 1047
def o385:=fP "read_items" 87 mv0 627
def o386:=tS 1053 ["text","read"]
def o387:=fY "read_days" 88
def o388:=cP "read_days" 1050 336 1 3 629 1055
def o389:=fP "read_days" 88 mv0 634
def o390:=tS 1061 ["text","read","mask"]
def o391:=fY "read_weekdays" 89
def o392:=cP "read_weekdays" 1058 343 1 3 636 1064
def o393:=fP "read_weekdays" 89 mv0 641
def o394:=di [⟨0,(.int 0 1083),(r 644)⟩,⟨1,(.int 1 1086),(r 645)⟩,⟨3,(.int 3 1089),(r 646)⟩] 3
def o395:=tu [(.int 0 1084),(.int 59 1085)]
def o396:=tu [(.int 0 1087),(.int 23 1088)]
def o397:=tu [(.int 1 1090),(.int 12 1091)]
def o398:=tS 1099 ["hours","minutes","times","hour"]
def o399:=fY "times_of" 99
def o400:=cP "times_of" 1096 360 2 3 647 1103
def o401:=fP "times_of" 99 mv7 652
def o402:=tS 1109 ["days","weekdays","last","first","mask","marks"]
def o403:=fY "days_by" 100
def o404:=cP "days_by" 1106 365 4 3 654 1115
def o405:=fP "days_by" 100 mv7 659
def o406(P:Params):=di [de P "__module__" 1125 mv7,de P "__qualname__" 1127 (.str "Row" 1126),de P "__firstlineno__" 1129 (.int 373 1128),dr P "__init__" 1137 674,dr P "minutes" 1144 681,dr P "hours" 1151 688,dr P "months" 1158 695,dr P "times" 1165 702,dr P "days_in" 1174 709,dr P "on_days" 1180 714,dr P "holds" 1188 721,dr P "shut_by" 1198 728,dr P "shown" 1205 735,dr P "__static_attributes__" 1212 736] 14
def o407:=fD 4 [(375,673),(383,680),(386,687),(389,694),(392,701),(395,708),(401,713),(406,720),(409,727),(422,734)]
def o408:=cK "Row" "Row" 1120 373 664 1123
def o409:=fr 666 663 mv7
def o410:=tS 1133 ["self","fields"]
def o411:=fz "__init__" "Row.__init__" (ib (tp 101) 0)
def o412:=cO "__init__" "Row.__init__" 1130 375 2 3 668 1135
def o413:=fQ "__init__" "Row.__init__" (ib (tp 101) 0) mv7 673
def o414:=tS 1141 ["self"]
def o415:=fT "minutes" "Row.minutes" (ib (tp 101) 1) (ib (tp 75) 1)
def o416:=cO "minutes" "Row.minutes" 1138 383 1 3 675 1142
def o417:=fS "minutes" "Row.minutes" (ib (tp 101) 1) (ib (tp 75) 1) mv7 680
def o418:=tS 1148 ["self"]
def o419:=fT "hours" "Row.hours" (ib (tp 101) 2) (ib (tp 75) 1)
def o420:=cO "hours" "Row.hours" 1145 386 1 3 682 1149
def o421:=fS "hours" "Row.hours" (ib (tp 101) 2) (ib (tp 75) 1) mv7 687
def o422:=tS 1155 ["self"]
def o423:=fz "months" "Row.months" (ib (tp 101) 3)
def o424:=cO "months" "Row.months" 1152 389 1 3 689 1156
def o425:=fQ "months" "Row.months" (ib (tp 101) 3) mv7 694
def o426:=tS 1162 ["self"]
def o427:=fT "times" "Row.times" (ib (tp 101) 4) (ib (tp 75) 1)
def o428:=cO "times" "Row.times" 1159 392 1 3 696 1163
def o429:=fS "times" "Row.times" (ib (tp 101) 4) (ib (tp 75) 1) mv7 701
def o430:=tS 1169 ["self","kind","month"]
def o431:=fz "days_in" "Row.days_in" (ib (tp 101) 5)
def o432:=cO "days_in" "Row.days_in" 1166 395 2 3 703 1172
def o433:=fQ "days_in" "Row.days_in" (ib (tp 101) 5) mv7 708
def o434:=fz "on_days" "Row.on_days" (ib (tp 101) 6)
def o435:=co [(.str "on_days" 1175),(.str "Row.on_days" 1176),(sf 1177),(i 401),(i 2),(i 0),(i 0),(i 3),(r 710),(.bool true),(i 181),(r 711),.none,.none,.none,(r 712),(i 1178),(i 401),(sf 1179)]
def o436:=fQ "on_days" "Row.on_days" (ib (tp 101) 6) mv7 713
def o437:=tS 1184 ["self","moment"]
def o438:=fz "holds" "Row.holds" (ib (tp 101) 7)
def o439:=cO "holds" "Row.holds" 1181 406 2 3 715 1186
def o440:=fQ "holds" "Row.holds" (ib (tp 101) 7) mv7 720
def o441:=tS 1192 ["self","moment","parts","date"]
def o442:=fz "shut_by" "Row.shut_by" (ib (tp 101) 8)
def o443:=cO "shut_by" "Row.shut_by" 1189 409 2 3 722 1196
def o444:=fQ "shut_by" "Row.shut_by" (ib (tp 101) 8) mv7 727
def o445:=tS 1202 ["self"]
def o446:=fT "shown" "Row.shown" (ib (tp 101) 9) (ib (tp 101) 3)
def o447:=cO "shown" "Row.shown" 1199 422 1 3 729 1203
def o448:=fS "shown" "Row.shown" (ib (tp 101) 9) (ib (tp 101) 3) mv7 734
def o449:=tS 1206 ["day_marks","hour_mask","minute_mask","month_mask","time_mask","weekday_marks"]
def o450(P:Params):=di [de P "__module__" 1125 mv7,de P "__firstlineno__" 1129 (.int 373 1128),dr P "__init__" 1137 674,dr P "minutes" 1144 681,dr P "hours" 1151 688,dr P "months" 1158 695,dr P "times" 1165 702,dr P "days_in" 1174 709,dr P "on_days" 1180 714,dr P "holds" 1188 721,dr P "shut_by" 1198 728,dr P "shown" 1205 735,dr P "__static_attributes__" 1212 736,dr P "__dict__" 1214 739,dr P "__weakref__" 1216 740,de P "__doc__" 1217 .none] 4
def o451:Obj:=⟨(.type "type"),none,(.cls ⟨"Row",[(.type "object")],[(r 738),(.type "object")],737,"Row",true,[],[],false,none,false⟩),#[none,none,(some (.str "Row" 1118)),(some (.str "Row" 1126)),(some (.builtin "object.__new__")),(some (.bool true))]⟩
def o452:Obj:=⟨(.type "getset_descriptor"),none,(.fields #[(.str "__dict__" 1213),(r 738),(.builtin "function.__dict__"),(.builtin "function.__dict__#set")]),#[]⟩
def o453:Obj:=⟨(.type "getset_descriptor"),none,(.fields #[(.str "__weakref__" 1215),(r 738),(.builtin "ExceptionGroup.__weakref__"),.none]),#[]⟩
def o454:=su 738 738 738
def o455:=bm "object.__init_subclass__" (r 738)
def o456:=tS 1223 ["word","place","bounds"]
def o457:=fY "read_word" 102
def o458:=cP "read_word" 1220 424 2 3 743 1226
def o459:=fP "read_word" 102 mv7 748
def o460:=tS 1232 ["word","place"]
def o461:=fY "read_at" 103
def o462:=cP "read_at" 1229 431 2 3 750 1234
def o463:=fP "read_at" 103 mv7 755
def o464:=fY "read_row" 104
def o465:=co [(.str "read_row" 1237),(.str "read_row" 1238),(sf 1239),(i 436),(i 1),(i 0),(i 0),(i 3),(r 757),(.bool true),(i 181),(r 758),.none,.none,.none,(r 759),(i 1240),(i 436),(sf 1241)]
def o466:=fP "read_row" 104 mv7 760
def o467:=tS 1254 ["times","kind"]
def o468:=fY "same_each_day" 109
def o469:=cP "same_each_day" 1251 447 2 3 762 1256
def o470:=fP "same_each_day" 109 mv8 767
def o471:=fY "all_times" 110
def o472:=cP "all_times" 1259 449 0 3 769 1262
def o473:=fP "all_times" 110 mv8 774
def o474:=fY "tally_of" 111
def o475:=co [(.str "tally_of" 1265),(.str "tally_of" 1266),(sf 1267),(i 451),(i 1),(i 0),(i 0),(i 3),(r 776),(.bool true),(i 181),(r 777),.none,.none,.none,(r 778),(i 1268),(i 451),(sf 1269)]
def o476:=fP "tally_of" 111 mv8 779
def o477:=fY "depth_of" 112
def o478:=co [(.str "depth_of" 1271),(.str "depth_of" 1272),(sf 1273),(i 453),(i 1),(i 0),(i 0),(i 3),(r 781),(.bool true),(i 181),(r 782),.none,.none,.none,(r 783),(i 1274),(i 453),(sf 1275)]
def o479:=fP "depth_of" 112 mv8 784
def o480(P:Params):=di [de P "__module__" 1284 mv8,de P "__qualname__" 1286 (.str "Book" 1285),de P "__firstlineno__" 1288 (.int 455 1287),dr P "holds" 1296 799,dr P "tally" 1303 806,dr P "depth" 1310 813,dr P "on_days" 1318 820,dr P "__static_attributes__" 1319 821] 8
def o481:=fD 4 [(457,798),(460,805),(463,812),(466,819)]
def o482:=cK "Book" "Book" 1279 455 789 1282
def o483:=fr 791 788 mv8
def o484:=tS 1292 ["self","moment"]
def o485:=fT "holds" "Book.holds" (ib (tp 113) 0) (ib (tp 101) 7)
def o486:=cO "holds" "Book.holds" 1289 457 2 3 793 1294
def o487:=fS "holds" "Book.holds" (ib (tp 113) 0) (ib (tp 101) 7) mv8 798
def o488:=tS 1300 ["self"]
def o489:=fT "tally" "Book.tally" (ib (tp 113) 1) (ib (tp 75) 1)
def o490:=cO "tally" "Book.tally" 1297 460 1 3 800 1301
def o491:=fS "tally" "Book.tally" (ib (tp 113) 1) (ib (tp 75) 1) mv8 805
def o492:=tS 1307 ["self"]
def o493:=fT "depth" "Book.depth" (ib (tp 113) 2) (ib (tp 75) 1)
def o494:=cO "depth" "Book.depth" 1304 463 1 3 807 1308
def o495:=fS "depth" "Book.depth" (ib (tp 113) 2) (ib (tp 75) 1) mv8 812
def o496:=tS 1314 ["self","kind"]
def o497:=fz "on_days" "Book.on_days" (ib (tp 113) 3)
def o498:=cO "on_days" "Book.on_days" 1311 466 2 3 814 1316
def o499:=fQ "on_days" "Book.on_days" (ib (tp 113) 3) mv8 819
def o500(P:Params):=di [de P "__module__" 1284 mv8,de P "__firstlineno__" 1288 (.int 455 1287),dr P "holds" 1296 799,dr P "tally" 1303 806,dr P "depth" 1310 813,dr P "on_days" 1318 820,dr P "__static_attributes__" 1319 821,dr P "__dict__" 1321 824,dr P "__weakref__" 1323 825,de P "__doc__" 1324 .none] 4
def o501:Obj:=⟨(.type "type"),none,(.cls ⟨"Book",[(.type "object")],[(r 823),(.type "object")],822,"Book",true,[],[(r 870),(r 913),(r 956),(r 1001),(r 1046)],false,none,false⟩),#[none,none,(some (.str "Book" 1277)),(some (.str "Book" 1285)),(some (.builtin "object.__new__")),(some (.bool true))]⟩
def o502:Obj:=⟨(.type "getset_descriptor"),none,(.fields #[(.str "__dict__" 1320),(r 823),(.builtin "function.__dict__"),(.builtin "function.__dict__#set")]),#[]⟩
def o503:Obj:=⟨(.type "getset_descriptor"),none,(.fields #[(.str "__weakref__" 1322),(r 823),(.builtin "ExceptionGroup.__weakref__"),.none]),#[]⟩
def o504:=su 823 823 823
def o505:=bm "object.__init_subclass__" (r 823)
def o506:=fY "checked" 114
def o507:=co [(.str "checked" 1327),(.str "checked" 1328),(sf 1329),(i 468),(i 1),(i 0),(i 0),(i 3),(r 828),(.bool true),(i 181),(r 829),.none,.none,.none,(r 830),(i 1330),(i 468),(sf 1331)]
def o508:=fP "checked" 114 mv8 831
def o509:=tS 1336 ["books"]
def o510:=fY "checked_list" 115
def o511:=cP "checked_list" 1333 476 1 3 833 1337
def o512:=fP "checked_list" 115 mv8 838
def ayY:=tu [(r 823)]
def o514(P:Params):=di [de P "__module__" 1347 mv8,de P "__qualname__" 1349 (.str "Of" 1348),de P "__firstlineno__" 1351 (.int 480 1350),dr P "__init__" 1359 853,dr P "holds" 1367 860,dr P "on_days" 1375 867,dr P "__static_attributes__" 1377 868] 7
def o515:=fD 4 [(482,852),(487,859),(490,866)]
def o516:=cK "Of" "Of" 1342 480 843 1345
def o517:=fr 845 842 mv8
def o518:=tS 1355 ["self","row"]
def o519:=fz "__init__" "Of.__init__" (ib (tp 116) 0)
def o520:=cO "__init__" "Of.__init__" 1352 482 2 3 847 1357
def o521:=fQ "__init__" "Of.__init__" (ib (tp 116) 0) mv8 852
def o522:=tS 1363 ["self","moment"]
def o523:=fT "holds" "Of.holds" (ib (tp 116) 1) (ib (tp 101) 7)
def o524:=cO "holds" "Of.holds" 1360 487 2 3 854 1365
def o525:=fS "holds" "Of.holds" (ib (tp 116) 1) (ib (tp 101) 7) mv8 859
def o526:=tS 1371 ["self","kind"]
def o527:=fz "on_days" "Of.on_days" (ib (tp 116) 2)
def o528:=cO "on_days" "Of.on_days" 1368 490 2 3 861 1373
def o529:=fQ "on_days" "Of.on_days" (ib (tp 116) 2) mv8 866
def o530:=tS 1376 ["row"]
def o531(P:Params):=di [de P "__module__" 1347 mv8,de P "__firstlineno__" 1351 (.int 480 1350),dr P "__init__" 1359 853,dr P "holds" 1367 860,dr P "on_days" 1375 867,dr P "__static_attributes__" 1377 868,de P "__doc__" 1378 .none] 2
def o532:Obj:=⟨(.type "type"),none,(.cls ⟨"Of",[(r 823)],[(r 870),(r 823),(.type "object")],869,"Of",true,[],[],false,none,false⟩),#[(some (r 840)),none,(some (.str "Of" 1340)),(some (.str "Of" 1348)),(some (.builtin "object.__new__")),(some (.bool true))]⟩
def o533:=su 870 870 870
def o534:=bm "object.__init_subclass__" (r 870)
def o535(P:Params):=di [de P "__module__" 1388 mv8,de P "__qualname__" 1390 (.str "Joined" 1389),de P "__firstlineno__" 1392 (.int 492 1391),dr P "__init__" 1400 886,dr P "holds" 1406 891,dr P "tally" 1413 898,dr P "depth" 1420 905,dr P "on_days" 1426 910,dr P "__static_attributes__" 1428 911] 9
def o536:=fD 4 [(494,885),(497,890),(500,897),(503,904),(506,909)]
def o537:=cK "Joined" "Joined" 1383 492 876 1386
def o538:=fr 878 875 mv8
def o539:=tS 1396 ["self","books"]
def o540:=fz "__init__" "Joined.__init__" (ib (tp 117) 0)
def o541:=cO "__init__" "Joined.__init__" 1393 494 2 3 880 1398
def o542:=fQ "__init__" "Joined.__init__" (ib (tp 117) 0) mv8 885
def o543:=fz "holds" "Joined.holds" (ib (tp 117) 1)
def o544:=co [(.str "holds" 1401),(.str "Joined.holds" 1402),(sf 1403),(i 497),(i 2),(i 0),(i 0),(i 3),(r 887),(.bool true),(i 181),(r 888),.none,.none,.none,(r 889),(i 1404),(i 497),(sf 1405)]
def o545:=fQ "holds" "Joined.holds" (ib (tp 117) 1) mv8 890
def o546:=tS 1410 ["self"]
def o547:=fz "tally" "Joined.tally" (ib (tp 117) 2)
def o548:=cO "tally" "Joined.tally" 1407 500 1 3 892 1411
def o549:=fQ "tally" "Joined.tally" (ib (tp 117) 2) mv8 897
def o550:=tS 1417 ["self"]
def o551:=fz "depth" "Joined.depth" (ib (tp 117) 3)
def o552:=cO "depth" "Joined.depth" 1414 503 1 3 899 1418
def o553:=fQ "depth" "Joined.depth" (ib (tp 117) 3) mv8 904
def o554:=fz "on_days" "Joined.on_days" (ib (tp 117) 4)
def o555:=co [(.str "on_days" 1421),(.str "Joined.on_days" 1422),(sf 1423),(i 506),(i 2),(i 0),(i 0),(i 3),(r 906),(.bool true),(i 181),(r 907),.none,.none,.none,(r 908),(i 1424),(i 506),(sf 1425)]
def o556:=fQ "on_days" "Joined.on_days" (ib (tp 117) 4) mv8 909
def o557:=tS 1427 ["books"]
def o558(P:Params):=di [de P "__module__" 1388 mv8,de P "__firstlineno__" 1392 (.int 492 1391),dr P "__init__" 1400 886,dr P "holds" 1406 891,dr P "tally" 1413 898,dr P "depth" 1420 905,dr P "on_days" 1426 910,dr P "__static_attributes__" 1428 911,de P "__doc__" 1429 .none] 2
def o559:Obj:=⟨(.type "type"),none,(.cls ⟨"Joined",[(r 823)],[(r 913),(r 823),(.type "object")],912,"Joined",true,[],[],false,none,false⟩),#[(some (r 873)),none,(some (.str "Joined" 1381)),(some (.str "Joined" 1389)),(some (.builtin "object.__new__")),(some (.bool true))]⟩
def o560:=su 913 913 913
def o561:=bm "object.__init_subclass__" (r 913)
def o562(P:Params):=di [de P "__module__" 1439 mv8,de P "__qualname__" 1441 (.str "Met" 1440),de P "__firstlineno__" 1443 (.int 511 1442),dr P "__init__" 1451 929,dr P "holds" 1457 934,dr P "tally" 1464 941,dr P "depth" 1471 948,dr P "on_days" 1477 953,dr P "__static_attributes__" 1479 954] 9
def o563:=fD 4 [(513,928),(516,933),(519,940),(522,947),(525,952)]
def o564:=cK "Met" "Met" 1434 511 919 1437
def o565:=fr 921 918 mv8
def o566:=tS 1447 ["self","books"]
def o567:=fT "__init__" "Met.__init__" (ib (tp 118) 0) (ib (tp 117) 0)
def o568:=cO "__init__" "Met.__init__" 1444 513 2 3 923 1449
def o569:=fS "__init__" "Met.__init__" (ib (tp 118) 0) (ib (tp 117) 0) mv8 928
def o570:=fz "holds" "Met.holds" (ib (tp 118) 1)
def o571:=co [(.str "holds" 1452),(.str "Met.holds" 1453),(sf 1454),(i 516),(i 2),(i 0),(i 0),(i 3),(r 930),(.bool true),(i 181),(r 931),.none,.none,.none,(r 932),(i 1455),(i 516),(sf 1456)]
def o572:=fQ "holds" "Met.holds" (ib (tp 118) 1) mv8 933
def o573:=tS 1461 ["self"]
def o574:=fT "tally" "Met.tally" (ib (tp 118) 2) (ib (tp 117) 2)
def o575:=cO "tally" "Met.tally" 1458 519 1 3 935 1462
def o576:=fS "tally" "Met.tally" (ib (tp 118) 2) (ib (tp 117) 2) mv8 940
def o577:=tS 1468 ["self"]
def o578:=fT "depth" "Met.depth" (ib (tp 118) 3) (ib (tp 117) 3)
def o579:=cO "depth" "Met.depth" 1465 522 1 3 942 1469
def o580:=fS "depth" "Met.depth" (ib (tp 118) 3) (ib (tp 117) 3) mv8 947
def o581:=fz "on_days" "Met.on_days" (ib (tp 118) 4)
def o582:=co [(.str "on_days" 1472),(.str "Met.on_days" 1473),(sf 1474),(i 525),(i 2),(i 0),(i 0),(i 3),(r 949),(.bool true),(i 181),(r 950),.none,.none,.none,(r 951),(i 1475),(i 525),(sf 1476)]
def o583:=fQ "on_days" "Met.on_days" (ib (tp 118) 4) mv8 952
def o584:=tS 1478 ["books"]
def o585(P:Params):=di [de P "__module__" 1439 mv8,de P "__firstlineno__" 1443 (.int 511 1442),dr P "__init__" 1451 929,dr P "holds" 1457 934,dr P "tally" 1464 941,dr P "depth" 1471 948,dr P "on_days" 1477 953,dr P "__static_attributes__" 1479 954,de P "__doc__" 1480 .none] 2
def o586:Obj:=⟨(.type "type"),none,(.cls ⟨"Met",[(r 823)],[(r 956),(r 823),(.type "object")],955,"Met",true,[],[],false,none,false⟩),#[(some (r 916)),none,(some (.str "Met" 1432)),(some (.str "Met" 1440)),(some (.builtin "object.__new__")),(some (.bool true))]⟩
def o587:=su 956 956 956
def o588:=bm "object.__init_subclass__" (r 956)
def o589(P:Params):=di [de P "__module__" 1490 mv8,de P "__qualname__" 1492 (.str "Less" 1491),de P "__firstlineno__" 1494 (.int 530 1493),dr P "__init__" 1503 972,dr P "holds" 1511 979,dr P "tally" 1518 986,dr P "depth" 1525 993,dr P "on_days" 1531 998,dr P "__static_attributes__" 1534 999] 9
def o590:=fD 4 [(532,971),(537,978),(540,985),(543,992),(546,997)]
def o591:=cK "Less" "Less" 1485 530 962 1488
def o592:=fr 964 961 mv8
def o593:=tS 1498 ["self","one","other"]
def o594:=fz "__init__" "Less.__init__" (ib (tp 119) 0)
def o595:=cO "__init__" "Less.__init__" 1495 532 3 3 966 1501
def o596:=fQ "__init__" "Less.__init__" (ib (tp 119) 0) mv8 971
def o597:=tS 1507 ["self","moment"]
def o598:=fT "holds" "Less.holds" (ib (tp 119) 1) (ib (tp 101) 7)
def o599:=cO "holds" "Less.holds" 1504 537 2 3 973 1509
def o600:=fS "holds" "Less.holds" (ib (tp 119) 1) (ib (tp 101) 7) mv8 978
def o601:=tS 1515 ["self"]
def o602:=fT "tally" "Less.tally" (ib (tp 119) 2) (ib (tp 117) 2)
def o603:=cO "tally" "Less.tally" 1512 540 1 3 980 1516
def o604:=fS "tally" "Less.tally" (ib (tp 119) 2) (ib (tp 117) 2) mv8 985
def o605:=tS 1522 ["self"]
def o606:=fT "depth" "Less.depth" (ib (tp 119) 3) (ib (tp 117) 3)
def o607:=cO "depth" "Less.depth" 1519 543 1 3 987 1523
def o608:=fS "depth" "Less.depth" (ib (tp 119) 3) (ib (tp 117) 3) mv8 992
def o609:=fz "on_days" "Less.on_days" (ib (tp 119) 4)
def o610:=co [(.str "on_days" 1526),(.str "Less.on_days" 1527),(sf 1528),(i 546),(i 2),(i 0),(i 0),(i 3),(r 994),(.bool true),(i 181),(r 995),.none,.none,.none,(r 996),(i 1529),(i 546),(sf 1530)]
def o611:=fQ "on_days" "Less.on_days" (ib (tp 119) 4) mv8 997
def o612:=tS 1532 ["one","other"]
def o613(P:Params):=di [de P "__module__" 1490 mv8,de P "__firstlineno__" 1494 (.int 530 1493),dr P "__init__" 1503 972,dr P "holds" 1511 979,dr P "tally" 1518 986,dr P "depth" 1525 993,dr P "on_days" 1531 998,dr P "__static_attributes__" 1534 999,de P "__doc__" 1535 .none] 2
def o614:Obj:=⟨(.type "type"),none,(.cls ⟨"Less",[(r 823)],[(r 1001),(r 823),(.type "object")],1000,"Less",true,[],[],false,none,false⟩),#[(some (r 959)),none,(some (.str "Less" 1483)),(some (.str "Less" 1491)),(some (.builtin "object.__new__")),(some (.bool true))]⟩
def o615:=su 1001 1001 1001
def o616:=bm "object.__init_subclass__" (r 1001)
def o617(P:Params):=di [de P "__module__" 1545 mv8,de P "__qualname__" 1547 (.str "Turned" 1546),de P "__firstlineno__" 1549 (.int 548 1548),dr P "__init__" 1557 1017,dr P "holds" 1565 1024,dr P "tally" 1572 1031,dr P "depth" 1579 1038,dr P "on_days" 1585 1043,dr P "__static_attributes__" 1587 1044] 9
def o618:=fD 4 [(550,1016),(554,1023),(557,1030),(560,1037),(563,1042)]
def o619:=cK "Turned" "Turned" 1540 548 1007 1543
def o620:=fr 1009 1006 mv8
def o621:=tS 1553 ["self","one"]
def o622:=fz "__init__" "Turned.__init__" (ib (tp 120) 0)
def o623:=cO "__init__" "Turned.__init__" 1550 550 2 3 1011 1555
def o624:=fQ "__init__" "Turned.__init__" (ib (tp 120) 0) mv8 1016
def o625:=tS 1561 ["self","moment"]
def o626:=fT "holds" "Turned.holds" (ib (tp 120) 1) (ib (tp 101) 7)
def o627:=cO "holds" "Turned.holds" 1558 554 2 3 1018 1563
def o628:=fS "holds" "Turned.holds" (ib (tp 120) 1) (ib (tp 101) 7) mv8 1023
def o629:=tS 1569 ["self"]
def o630:=fT "tally" "Turned.tally" (ib (tp 120) 2) (ib (tp 117) 2)
def o631:=cO "tally" "Turned.tally" 1566 557 1 3 1025 1570
def o632:=fS "tally" "Turned.tally" (ib (tp 120) 2) (ib (tp 117) 2) mv8 1030
def o633:=tS 1576 ["self"]
def o634:=fT "depth" "Turned.depth" (ib (tp 120) 3) (ib (tp 117) 3)
def o635:=cO "depth" "Turned.depth" 1573 560 1 3 1032 1577
def o636:=fS "depth" "Turned.depth" (ib (tp 120) 3) (ib (tp 117) 3) mv8 1037
def o637:=fz "on_days" "Turned.on_days" (ib (tp 120) 4)
def o638:=co [(.str "on_days" 1580),(.str "Turned.on_days" 1581),(sf 1582),(i 563),(i 2),(i 0),(i 0),(i 3),(r 1039),(.bool true),(i 181),(r 1040),.none,.none,.none,(r 1041),(i 1583),(i 563),(sf 1584)]
def o639:=fQ "on_days" "Turned.on_days" (ib (tp 120) 4) mv8 1042
def o640:=tS 1586 ["one"]
def o641(P:Params):=di [de P "__module__" 1545 mv8,de P "__firstlineno__" 1549 (.int 548 1548),dr P "__init__" 1557 1017,dr P "holds" 1565 1024,dr P "tally" 1572 1031,dr P "depth" 1579 1038,dr P "on_days" 1585 1043,dr P "__static_attributes__" 1587 1044,de P "__doc__" 1588 .none] 2
def o642:Obj:=⟨(.type "type"),none,(.cls ⟨"Turned",[(r 823)],[(r 1046),(r 823),(.type "object")],1045,"Turned",true,[],[],false,none,false⟩),#[(some (r 1004)),none,(some (.str "Turned" 1538)),(some (.str "Turned" 1546)),(some (.builtin "object.__new__")),(some (.bool true))]⟩
def o643:=su 1046 1046 1046
def o644:=bm "object.__init_subclass__" (r 1046)
def o645:=tS 1596 ["_law_script","_law_k"]
def o646:=fY "_law_cell_at" 122
def o647:=cP "_law_cell_at" 1593 566 2 3 1049 1598
def o648:=fP "_law_cell_at" 122 mv6 1054
def o649:=tS 1604 ["_law_number","_law_first","_law_second"]
def o650:=fY "_law_stir" 123
def o651:=cP "_law_stir" 1601 570 1 3 1056 1607
def o652:=fP "_law_stir" 123 mv6 1061
def o653:=tS 1613 ["_law_cell","_law_sizes","_law_mixed","_law_found","_law_size"]
def o654:=fY "_law_digits" 124
def o655:=cP "_law_digits" 1610 574 3 3 1063 1618
def o656:=fP "_law_digits" 124 mv6 1068
def o657:=tS 1624 ["_law_parts","_law_low","_law_high","_law_one","_law_later","_law_by","_law_some"]
def o658:=fY "_law_field" 125
def o659:=cP "_law_field" 1621 585 3 3 1070 1631
def o660:=fP "_law_field" 125 mv6 1075
def o661:=tS 1637 ["_law_cell","_law_mixed","_law_parts","_law_one","_law_day","_law_days","_law_weekdays","_law_words"]
def o662:=fY "_law_row" 126
def o663:=cP "_law_row" 1634 592 2 3 1077 1645
def o664:=fP "_law_row" 126 mv6 1082
def o665:=fY "_law_tree" 127
def o666:=co [(.str "_law_tree" 1648),(.str "_law_tree" 1649),(sf 1650),(i 605),(i 4),(i 0),(i 0),(i 3),(r 1084),(.bool true),(i 181),(r 1085),.none,.none,.none,(r 1086),(i 1651),(i 605),(sf 1652)]
def o667:=fP "_law_tree" 127 mv6 1087
def o668:=fY "_law_make" 128
def o669:=co [(.str "_law_make" 1654),(.str "_law_make" 1655),(sf 1656),(i 615),(i 1),(i 0),(i 0),(i 3),(r 1089),(.bool true),(i 181),(r 1090),.none,.none,.none,(r 1091),(i 1657),(i 615),(sf 1658)]
def o670:=fP "_law_make" 128 mv6 1092
def o671:=tS 1663 ["_law_word","_law_one","_law_other"]
def o672:=fY "_law_joined" 129
def o673:=cP "_law_joined" 1660 629 3 3 1094 1666
def o674:=fP "_law_joined" 129 mv6 1099
def o675:=fY "_law_masks" 130
def o676:=co [(.str "_law_masks" 1669),(.str "_law_masks" 1670),(sf 1671),(i 635),(i 2),(i 0),(i 0),(i 3),(r 1101),(.bool true),(i 181),(r 1102),.none,.none,.none,(r 1103),(i 1672),(i 635),(sf 1673)]
def o677:=fP "_law_masks" 130 mv6 1104
def o678:=tS 1678 ["_law_a","_law_b","_law_c","_law_some"]
def o679:=fY "_law_pairs" 131
def o680:=cP "_law_pairs" 1675 650 3 3 1106 1682
def o681:=fP "_law_pairs" 131 mv6 1111
def o682:=tS 1688 ["_law_cell","_law_mixed","_law_parts","_law_one","_law_some"]
def o683:=fY "_law_rare" 132
def o684:=cP "_law_rare" 1685 666 2 3 1113 1693
def o685:=fP "_law_rare" 132 mv6 1118
def o686:=tS 1699 ["_law_one","_law_other","_law_kind"]
def o687:=fY "_law_unlike" 133
def o688:=cP "_law_unlike" 1696 671 2 3 1120 1702
def o689:=fP "_law_unlike" 133 mv6 1125
def o690:=fY "law" 134
def o691:=co [(.str "law" 1705),(.str "law" 1706),(sf 1707),(i 676),(i 1),(i 0),(i 0),(i 3),(r 1127),(.bool true),(i 181),(r 1128),.none,.none,.none,(r 1129),(i 1708),(i 676),(sf 1709)]
def o692:=fP "law" 134 mv6 1130
def hL(P:Params):List Obj:=[(boot_o_0 P),(boot_o_1 P),(boot_o_2 P),(o372 P),(boot_o_4 P),(boot_o_5 P),(boot_o_6 P),(boot_o_7 P),(boot_o_8 P),(boot_o_9 P),(boot_o_10 P),o0,o373,o2,o3,o0,o1,o6,o0,o7,o8,o9,o10,o11,(o12 P),o0,o1,o13,o14,o0,(o15 P),o16,o17,o18,o19,o20,o11,(o21 P),o0,o1,o22,o23,o0,(o24 P),o25,o26,o27,o20,o11,(o28 P),o0,o29,o30,o31,o0,o1,o32,o0,o33,o34,o35,o36,(o37 P),o38,o39,o40,o20,o11,(o41 P),o0,o42,o43,o44,o0,o1,o45,o0,o46,o47,o48,o49,(o50 P),o51,o52,o53,o20,o11,(o54 P),o0,o1,o55,o56,o0,(o57 P),o58,o59,o60,o0,o1,o61,o0,o62,o63,o64,o65,o0,o1,o66,o0,o67,o68,o69,o0,o1,o70,o0,o71,o72,o73,o0,o1,o74,o0,o75,o76,o77,o0,o1,o78,o0,o79,o80,o81,o0,o1,o82,o0,o83,o84,o85,o0,o1,o86,o87,o88,o0,o1,o89,o0,o90,o91,o92,o0,o1,o93,o0,o94,o95,o96,o0,o1,o97,o0,o98,o99,aHR,o0,o1,aG2,aJM,aPA,o0,o1,aNG,o0,aM8,aNF,aGB,o0,o1,aKI,o0,aJW,aOM,aJI,o0,o1,aO3,o0,aNS,aIS,aFW,o0,o1,aMF,o0,aIC,aHN,aLJ,o0,o1,aOH,o0,aLX,aIV,aHU,o0,o1,aH4,o0,aFU,aK0,aMX,o0,o1,aJD,aMV,aJO,o0,o1,aIJ,o0,aGG,aL1,aMN,o0,o1,aNN,aOQ,aHO,o0,o1,aGQ,o0,aIY,aFT,aLW,o0,o1,aMY,aNM,aIF,o0,o1,aNC,o0,aPK,aJZ,aKF,o0,o1,aPD,o0,aHA,aIB,aGP,o0,o1,aNB,aO7,aHK,o0,o1,aF7,o0,aJ0,aOW,aJG,o0,o1,aK3,aLF,aG9,o0,o1,aF0,o0,aN7,aNH,aMH,o0,o1,aMI,o0,aML,aMQ,aJP,o0,o1,aJ6,aON,aGD,o0,o1,aPI,o0,aOX,aNK,aHY,o0,o1,aJU,o0,aJ1,aLR,aI3,o0,o1,aL6,o0,aPH,aIA,aGF,o0,o1,aL2,o0,aL8,aMG,aMM,o0,o1,aPJ,o0,aJL,aPF,aHW,o0,o1,aMA,o0,aKJ,aLG,aOY,o0,o1,aMC,o0,aKX,aPM,aNP,o0,o11,(aGJ P),o0,aOK,aFZ,aOF,o0,o1,aOI,o0,aLV,aGL,aLK,o0,o1,aHC,o0,aKD,aKG,aKV,o0,(aJ2 P),aHP,aKH,aH7,aOD,aOV,ahD,o11,(aLT P),o0,aKL,aPN,aK2,o0,o1,aM3,o0,aJ8,aNV,aI7,o0,o1,aIP,o0,aGM,aLS,aI2,o0,o1,aOG,o0,aGC,aI8,aKB,aJK,(aIX P),aKM,aKP,aHS,ahD,o11,(aJN P),o0,aPO,aNA,aHJ,aHF,o0,o1,aLA,o0,aKR,aIW,aIK,o0,o1,aLB,o0,aKW,aLN,aGE,o0,o1,aHV,o0,aLO,aGY,aNY,aKY,(aOE P),aF8,aGK,aN0,ahD,o11,(aJ5 P),o0,aK4,aLC,aIU,o0,o1,aIT,o0,aH3,aNL,aLP,o0,o1,aNI,o0,aNX,aFV,aJ4,o0,o1,aG4,o0,aHX,aJA,aID,aNJ,(aL7 P),aIE,aOL,aI1,ahD,o11,(aGO P),o0,aHG,aK6,aHB,o0,o1,aLZ,o0,aM6,aO9,aM9,o0,o1,aLH,o0,aGX,aJ9,aMJ,o0,(aI6 P),aMB,aH8,aFX,ahD,o11,(aIM P),o0,aK1,aOR,aMZ,o0,o1,aK9,o0,aO4,aL3,aIL,o0,o1,aF2,o0,aI5,aJQ,aME,o0,o1,aJT,o0,aHI,aN8,aLD,aNQ,(aKC P),aOZ,aM2,aJB,ahD,o11,(aN1 P),o0,aM1,aMW,aGH,o0,o1,aPC,o0,aPG,aF9,aM4,o0,o1,aOP,o0,aNT,aIO,aIQ,o0,o1,aGU,o0,aJC,aO1,aG5,aG3,(aOJ P),aM0,aJ3,aH2,ahD,o11,(aJV P),o0,aMK,aOA,aJJ,o0,o1,aI4,o0,aHM,aJH,aJR,o0,o1,aMT,o0,aKK,aH6,aL5,o0,o1,aL9,o0,aK7,aG8,aG6,aF6,(aN9 P),aG7,aOB,aJ7,o0,o1,aOS,o0,aK5,aMU,aKA,o0,o1,aM7,o0,aGA,aGV,aLM,o0,o1,o374,o0,o375,o376,o377,o0,o1,o378,o0,o379,o380,o381,o0,o1,o382,o0,o383,o384,o385,o0,o1,o386,o0,o387,o388,o389,o0,o1,o390,o0,o391,o392,o393,o394,o395,o396,o397,o0,o1,o398,o0,o399,o400,o401,o0,o1,o402,o0,o403,o404,o405,o0,o11,(o406 P),o0,o407,o408,o409,o0,o1,o410,o0,o411,o412,o413,o0,o1,o414,o0,o415,o416,o417,o0,o1,o418,o0,o419,o420,o421,o0,o1,o422,o0,o423,o424,o425,o0,o1,o426,o0,o427,o428,o429,o0,o1,o430,o0,o431,o432,o433,o0,o1,o434,o435,o436,o0,o1,o437,o0,o438,o439,o440,o0,o1,o441,o0,o442,o443,o444,o0,o1,o445,o0,o446,o447,o448,o449,(o450 P),o451,o452,o453,o454,o455,o0,o1,o456,o0,o457,o458,o459,o0,o1,o460,o0,o461,o462,o463,o0,o1,o464,o465,o466,o0,o1,o467,o0,o468,o469,o470,o0,o1,o0,o0,o471,o472,o473,o0,o1,o474,o475,o476,o0,o1,o477,o478,o479,o0,o11,(o480 P),o0,o481,o482,o483,o0,o1,o484,o0,o485,o486,o487,o0,o1,o488,o0,o489,o490,o491,o0,o1,o492,o0,o493,o494,o495,o0,o1,o496,o0,o497,o498,o499,o0,(o500 P),o501,o502,o503,o504,o505,o0,o1,o506,o507,o508,o0,o1,o509,o0,o510,o511,o512,ayY,o11,(o514 P),o0,o515,o516,o517,o0,o1,o518,o0,o519,o520,o521,o0,o1,o522,o0,o523,o524,o525,o0,o1,o526,o0,o527,o528,o529,o530,(o531 P),o532,o533,o534,ayY,o11,(o535 P),o0,o536,o537,o538,o0,o1,o539,o0,o540,o541,o542,o0,o1,o543,o544,o545,o0,o1,o546,o0,o547,o548,o549,o0,o1,o550,o0,o551,o552,o553,o0,o1,o554,o555,o556,o557,(o558 P),o559,o560,o561,ayY,o11,(o562 P),o0,o563,o564,o565,o0,o1,o566,o0,o567,o568,o569,o0,o1,o570,o571,o572,o0,o1,o573,o0,o574,o575,o576,o0,o1,o577,o0,o578,o579,o580,o0,o1,o581,o582,o583,o584,(o585 P),o586,o587,o588,ayY,o11,(o589 P),o0,o590,o591,o592,o0,o1,o593,o0,o594,o595,o596,o0,o1,o597,o0,o598,o599,o600,o0,o1,o601,o0,o602,o603,o604,o0,o1,o605,o0,o606,o607,o608,o0,o1,o609,o610,o611,o612,(o613 P),o614,o615,o616,ayY,o11,(o617 P),o0,o618,o619,o620,o0,o1,o621,o0,o622,o623,o624,o0,o1,o625,o0,o626,o627,o628,o0,o1,o629,o0,o630,o631,o632,o0,o1,o633,o0,o634,o635,o636,o0,o1,o637,o638,o639,o640,(o641 P),o642,o643,o644,o0,o1,o645,o0,o646,o647,o648,o0,o1,o649,o0,o650,o651,o652,o0,o1,o653,o0,o654,o655,o656,o0,o1,o657,o0,o658,o659,o660,o0,o1,o661,o0,o662,o663,o664,o0,o1,o665,o666,o667,o0,o1,o668,o669,o670,o0,o1,o671,o0,o672,o673,o674,o0,o1,o675,o676,o677,o0,o1,o678,o0,o679,o680,o681,o0,o1,o682,o0,o683,o684,o685,o0,o1,o686,o0,o687,o688,o689,o0,o1,o690,o691,o692]
def t2(P:Params):BT:=brn 12 (hL P)
def s2(w:World)(os:OsState):SharedT:=⟨t2 w.params,1132,⟨[],[],[],0,[],[],false,#[],[],0,false,false,false,0,[2000,10,10],false,0,true,[],[],0,false⟩,#[],⟨0,0,0,0⟩,1711,os⟩
def l1:List Stmt:=(bi.drop 85).take 50
theorem r1(w:World)(os:OsState):
  segRunT treeTable pw w 11 an 1 3647 (s1 w os) (piecesOf l1 ev cd ⟨291,0,302,15⟩ bk) =
  some (.next,s2 w os,cd,⟨676,0,692,79⟩):=
 byRow2 "special-get-raises" (P:=fun w=>segRunT treeTable pw w 11 an 1 3647 (s1 w os) (piecesOf l1 ev cd ⟨291,0,302,15⟩ bk)=some (.next,s2 w os,cd,⟨676,0,692,79⟩)) (fun w=>by kernel_rfl) (fun w=>by kernel_rfl) w
def hF(P:Params):Heap:=⟨⟨hL P⟩,⟨[],[],[],0,[],[],false,#[],[],0,false,false,false,0,[2000,10,10],false,0,true,[],[],0,false⟩⟩
def sF(w:World)(os:OsState):Shared:=⟨hF w.params,#[],⟨0,0,0,0⟩,1711,os⟩
theorem fin(w:World)(os:OsState):
  topRun treeTable pw w 11 an 2 (s2 w os).abs (restOf [] ev cd ⟨676,0,692,79⟩ bk) =
  some (sF w os):=by kernel_rfl
theorem bis:bi=(l0++(l1++[])):=by kernel_rfl
theorem run(w:World)(os:OsState):topRun treeTable pw w 11 an (12+(1+(4991+(3647+(2))))) ⟨boot_heap w.params,⟨[]⟩,boot_drawn,boot_toks,os⟩ (topStub pw)=some (sF w os):=by
 refine go_top (pre w os) (piece_block (blk w os) ?_)
 rw[bis]
 exact (piece_app (segRun_of (r0 w os)) (piece_app (segRun_of (r1 w os)) (fin w os)))
theorem opn:∀w:World,(fencedOpening treeTable pw w 17398).map (fun s=>(s.heap,s.gens,s.drawn,s.toks))=some (boot_heap w.params,⟨[]⟩,boot_drawn,boot_toks):=
 boot_open (by kernel_rfl) rfl (fun s=>by kernel_rfl)
theorem siz(w:World):((boot_heap w.params).isNs mainGlobals&&(⟨[]⟩:Array GenState).size==0,(boot_heap w.params).objs.size,(boot_heap w.params).nsMap mainGlobals "__annotations__")=(true,11,an):=by kernel_rfl
end
end
theorem aNU{q:Program}{loose mods:List Str}{Xt:Shared->Bool}{s:Shared}
  (e1:seen ((recsOf q).map (·.name)) (ownsOf q) [] {s with gens:= #[]}=expectedOf q) (e2:s.heap.bltView=bltViewBooted)
  (a1:s.heap.keysOk (looseW q loose) ((recsOf q).map (·.name)) ((litsOf q).map (·.1)) ((clssOf q (looseW q loose)).map (·.name))=true)
  (a2:s.heap.accountedOkI mods=true) (a3:s.heap.isNs mainGlobals=true) (a4:s.heap.isNs builtinsNs=true)
  (a5:tablesOk q s.heap=true) (a6:Xt s=true) (a7:(s.gens.size==0)=true) (e4:tabsOk q s=true)
  (e5:pinSeenD q (drecsOf q) s=pinGoodD (drecsOf q)) (e6:plainSeenE q (looseW q loose) s=plainGoodE q (looseW q loose))
  (e7:plainSeenD q loose s=plainGoodD q loose) (e8:wideSeen q s=wideGood q) (e9:clsSeenW q loose s=clsGoodW q loose):
  openSeen q loose mods Xt true s=openGood q loose:=by
 unfold openSeen openGood
 rw[e1,e2,a1,a2,a3,a4,a5,a6,if_pos rfl,a7,e4,e5,e6,e7,e8,e9];rfl
theorem aOC{α:Type}(n:Nat){l r:List α}(h1:l.take n=r.take n)(h2:l.drop n=r.drop n):l=r:=by
 rw[←List.take_append_drop n l,h1,h2,List.take_append_drop]
noncomputable def aaV:Program:=view PySem.Challenge.pw_fivefields_k66_whole_alike_sheets [0,2,3,4,5,6,8,10,11,12,13,14,15,16,17,18,19,20,21,23,24,25,27,28,29,31,32,33,34,35,36,37,39,40,41,42,43,44,46,48,49,51,52,53,54,55,56,57,58,59,60,61,63,64,65,66,67,68,69,70,71,72,73,74,75,76,77,78,79,80,81,82,83,84,85,86,87,88,89,91,92,93,94,95,96,97,98,99,100,101,102,103,104,106,107,108,109,110,111,112,113,114,115,116,117,118,119,120,122,123,124,125,126,127,128,129,130,131,132,133,134]
noncomputable def free:List Str:=[Str.ofString "Last",Str.ofString "BOUNDS"]
noncomputable def read:List (Str×WData):=[]
section
set_option maxHeartbeats 0
set_option maxRecDepth 100000
noncomputable section
def XT:Shared->Bool:=fun z=>xlAt aaV read z&&recOk (RowW.records (OpenRow.toRowW (OpenLaw.row PySem.Challenge.rw_fivefields_k66_whole_alike_sheets))) z
abbrev SE(w:World)(os:OsState):=openSeen aaV free (importedModules pw.main.body) XT true (sF w os)
section
variable(w:World)(os:OsState)
theorem z1:seen ((recsOf aaV).map (·.name)) (ownsOf aaV) [] {sF w os with gens:= #[]}=expectedOf aaV:=by kernel_rfl
theorem z2:(sF w os).heap.bltView=bltViewBooted:=by kernel_rfl
theorem y1:(sF w os).heap.keysOk (looseW aaV free) ((recsOf aaV).map (·.name)) ((litsOf aaV).map (·.1)) ((clssOf aaV (looseW aaV free)).map (·.name))=true:=by kernel_rfl
theorem y2:(sF w os).heap.accountedOkI (importedModules pw.main.body)=true:=by kernel_rfl
theorem y3:(sF w os).heap.isNs mainGlobals=true:=by kernel_rfl
theorem y4:(sF w os).heap.isNs builtinsNs=true:=by kernel_rfl
theorem y5:tablesOk aaV (sF w os).heap=true:=by kernel_rfl
theorem y6:XT (sF w os)=true:=by kernel_rfl
theorem y7:((sF w os).gens.size==0)=true:=by kernel_rfl
theorem z4:tabsOk aaV (sF w os)=true:=by kernel_rfl
theorem z5:pinSeenD aaV (drecsOf aaV) (sF w os)=pinGoodD (drecsOf aaV):=by kernel_rfl
theorem z6:plainSeenE aaV (looseW aaV free) (sF w os)=plainGoodE aaV (looseW aaV free):=by kernel_rfl
theorem z7:plainSeenD aaV free (sF w os)=plainGoodD aaV free:=by kernel_rfl
theorem z8:wideSeen aaV (sF w os)=wideGood aaV:=by kernel_rfl
theorem z9:clsSeenW aaV free (sF w os)=clsGoodW aaV free:=by kernel_rfl
theorem look:SE w os=openGood aaV free:=aNU (q:=aaV) (loose:=free) (mods:=importedModules pw.main.body) (Xt:=XT) (s:=sF w os) (z1 w os) (z2 w os) (y1 w os) (y2 w os) (y3 w os) (y4 w os) (y5 w os) (y6 w os) (y7 w os) (z4 w os) (z5 w os) (z6 w os) (z7 w os) (z8 w os) (z9 w os)
end
theorem lk0(w:World)(os:OsState):(staticsOk (importedModules pw.main.body) (boot_heap w.params) (hF w.params)&&namesBound pw (hF w.params)
  &&gensDone (sF w os)&&laidKept (boot_heap w.params) (hF w.params))=true:=by kernel_rfl
section
set_option Elab.async false
local macro_rules
  | `(tactic| o_head $H) => `(tactic| (have kk := $H; assumption))
theorem d0(h:PySem.Challenge.rw_fivefields_k66_whole_alike_sheets.row.Holds):PySem.Challenge.rw_fivefields_k66_whole_alike_sheets.row.Holds:=by
 w_on
 k_head
end
theorem kk(w:World)(os:OsState):((d0.heap_1 w.params).map fun p=>p.1).map (sF w os).heap.get? =(d0.heap_1 w.params).map fun p=>some p.2:=by
 iterate 3 (refine aOC 190 ?_ ?_;(· as_aux_lemma=>kernel_rfl))
 as_aux_lemma=>kernel_rfl
abbrev rR:OpenRow:=OpenLaw.row PySem.Challenge.rw_fivefields_k66_whole_alike_sheets
def as0:List Addr:=(d0.heap_1 {strHash:=fun _=>0,shareClass:=fun _=>0,mergeTok:=fun t=>t,idOf:=fun _=>0,idOfShared:=fun _ _=>0,followText:=fun _=>true,idOfImm:=fun _=>0}).map (·.1)
theorem awL(P:Params):as0=(d0.heap_1 P).map (·.1):=by kernel_rfl
theorem lft:LeftO rR.prog aaV free XT (kHook d0.heap_1 as0 awL).obs (kHook d0.heap_1 as0 awL).val 17398:=by
 refine LeftO.of_pieces opn siz run rfl ?_
 intro w
 funext os
 refine looks_pair (lk0 w os) (looks_pair (look w os) ?_)
 show as0.map (sF w os).heap.get? =(d0.heap_1 w.params).map fun p=>some p.2
 rw[awL w.params]
 exact kk w os
theorem dS:(defOf aaV rR.name).isSome=true:=by kernel_rfl
def dL:DefRec:=((defOf aaV rR.name).get dS).1
theorem h1:defOf aaV rR.name=some (dL,[]):=by kernel_rfl
theorem h2:rR.prog.theDef rR.name=some (dL.params,dL.body,dL.scope):=by kernel_rfl
theorem h3:kwWritten? dL.params.kwonlyargs dL.params.kw_defaults=some []:=by kernel_rfl
theorem h4:dL.params.defaults=[]:=by kernel_rfl
theorem h5:dL.name="law":=by kernel_rfl
theorem h6:(!rR.writes||rR.records.isEmpty)=true:=by kernel_rfl
theorem h7:(chainsOk aaV&&opensWell rR.prog&&(frees rR.toRowW&&rR.within.isEmpty))=true:=by decide +kernel
theorem h8:rR.prog.bare:=⟨rfl,rfl,rfl,rfl,rfl,by decide +kernel⟩
theorem lst(said:rR.wellSaid=true)(hw:rR.toRowW.promised)
  (hc:WalkO aaV free (XL aaV read) (kHook d0.heap_1 as0 awL).says rR.toRowW dL [] fun f vs=>PySem.call f vs):rR.Holds:=
 holds_open (q:=aaV) (loose:=free) (Xt:=XT) (XP:=XL aaV read) lft (kHook d0.heap_1 as0 awL).of (kHook d0.heap_1 as0 awL).keeps
  (fun z y=>xl_of z (Bool.and_eq_true_iff.mp y).1) XL.keeps h1 h2 h3 (fun z y=>recFacts_of (Bool.and_eq_true_iff.mp y).2) h6 said h7 h8 hw hc
end
end
end Hd
set_option Elab.async false
set_option linter.all false
set_option maxRecDepth 100000
namespace L2
open PySem PySem.Spec PyProof.Rows
abbrev FG:=PySem.W.Frag
abbrev dR:=@wpAny_standAt
abbrev dU:=@wpAny_comprehension_free
abbrev dW:=@wpAny_bind
abbrev dX:=@wpAny_mono
abbrev dY:=@sizeLine_eq
abbrev dZ:=@wpAny_holding
abbrev d5:=@of_decide_eq_true
abbrev d6:=@decide_eq_true
abbrev d7:=@decide_eq_true_eq
abbrev d8:=@decide_eq_false
abbrev d9:=@wpAny_Call_Name_kw
abbrev eC:=@wpAny_pure
abbrev eE:=@wpAny_truthy_bool
abbrev aU:=@List.length_map
abbrev aV:=@Nat.le_refl
abbrev aW:=@List.length_append
abbrev aX:=@List.mem_cons
abbrev aY:=@Heap.lt_size
abbrev aZ:=@List.map_append
abbrev a8:=@Int.le_refl
abbrev a9:=@Nat.lt_of_lt_of_le
abbrev bA:=@Option.some.inj
abbrev bB:=@Heap.get?_push_of_some
abbrev bC:=@Bool.false_ne_true
abbrev bD:=@Nat.ne_of_lt
abbrev bE:=@List.getElem?_map
abbrev bF:=@List.mem_cons_of_mem
abbrev bG:=@List.size_toArray
abbrev bH:=@Int.eq_ofNat_of_zero_le
abbrev bI:=@List.map_cons
abbrev bJ:=@List.length_cons
abbrev bK:=@List.take_succ
abbrev bL:=@Heap.get?_push_size
abbrev bM:=@Nat.zero_le
abbrev bN:=@List.cons_ne_nil
abbrev bO:=@List.mem_cons_self
abbrev bP:=@Int.toNat_natCast
abbrev bQ:=@List.mem_singleton
abbrev bR:=@List.mem_map
abbrev bS:=@List.take_length
abbrev bT:=@Nat.le_trans
abbrev bU:=@Nat.succ.inj
abbrev bV:=@List.not_mem_nil
abbrev bW:=@List.mem_of_getElem?
abbrev bX:=@Bool.and_eq_true
abbrev bY:=@List.mem_append_right
abbrev bZ:=@List.mem_append
abbrev b5:=@Int.toNat_of_nonneg
abbrev b6:=@List.mem_range
abbrev b7:=@List.mem_filterMap
abbrev b8:=@List.length_singleton
abbrev b9:=@List.all_eq_true
abbrev cA:=@Nat.lt_irrefl
abbrev cC:=@List.range_succ
abbrev cD:=@List.map_map
abbrev cE:=@List.getElem?_eq_some_iff
abbrev cF:=@Nat.ne_of_gt
abbrev cG:=@List.any_cons
abbrev cH:=@List.getElem?_eq_getElem
abbrev cI:=@Bool.eq_iff_iff
abbrev cN:=@Nat.lt_of_le_of_lt
abbrev cQ:=@List.any_eq_false
abbrev cR:=@Heap.size_push
abbrev cS:=@List.append_nil
abbrev cU:=@List.filterMap_cons
abbrev cV:=@Int.natCast_nonneg
abbrev cW:=@List.length_take
abbrev cX:=@List.length_replicate
abbrev cY:=@Heap.get?_update_other
abbrev cZ:=@List.flatten_cons
abbrev c5:=@List.lookup_cons
abbrev c6:=@Int.emod_nonneg
abbrev c7:=@Int.emod_lt_of_pos
abbrev c8:=@Nat.le_add_right
abbrev c9:=@List.find?_cons
abbrev dA:=@List.getElem?_range
abbrev dC:=@Array.length_toList
abbrev dD:=@Option.isSome_iff_exists
abbrev dE:=@List.replicate_succ
abbrev dF:=@List.foldl_append
abbrev dG:=@List.length_range
abbrev dH:=@List.filterMap_append
abbrev dI:=@List.eq_nil_of_length_eq_zero
abbrev dN:=@List.getElem?_append_right
abbrev dP:=@List.take_of_length_le
abbrev dQ:=@Array.getElem?_eq_some_iff
noncomputable abbrev Key:=Sum Int Str
noncomputable def an6:Key->Value->Bool
 |.inl k,v=>Value.isInt k v
 |.inr x,v=>Value.isStrOf x v
noncomputable def keyH(w:World):Key->Int
 |.inl k=>hashInt k
 |.inr x=>hashStr w x
theorem abC:∀{k:Key} {v:Value},an6 k v=true->(∃i t,k=Sum.inl i/\v=Value.int i t)∨(∃x t,k=Sum.inr x/\v=Value.str x t)
 |.inl i,v,h=>by
  obtain⟨t,e⟩:=Value.isInt_shape (k:=i) (v:=v) h
  exact .inl ⟨i,t,rfl,e⟩
 |.inr x,v,h=>by
  obtain⟨t,e⟩:=Value.isStrOf_shape (x:=x) (v:=v) h
  exact .inr ⟨x,t,rfl,e⟩
theorem awF(i:Int)(t:Tok):an6 (.inl i) (.int i t)=true:=by simp[an6,Value.isInt]
theorem av8(x:Str)(t:Tok):an6 (.inr x) (.str x t)=true:=by simp[an6,Value.isStrOf]
theorem aFP(a b:Int):decide ((Sum.inl a:Key)=Sum.inl b)=(a==b):=by
 by_cases e:a=b
 ·subst e;simp
 ·have h:¬(Sum.inl a:Key)=Sum.inl b:=fun q=>e (Sum.inl.inj q)
  rw[d8 h]
  exact (beq_eq_false_iff_ne.mpr e).symm
theorem aC5(a b:Str):decide ((Sum.inr a:Key)=Sum.inr b)=decide (a=b):=by
 by_cases e:a=b
 ·subst e;simp
 ·have h:¬(Sum.inr a:Key)=Sum.inr b:=fun q=>e (Sum.inr.inj q)
  rw[d8 h,d8 e]
theorem aE1(a:Int)(b:Str):decide ((Sum.inl a:Key)=Sum.inr b)=false:=d8 (fun q=>nomatch q)
theorem aDC(a:Str)(b:Int):decide ((Sum.inr a:Key)=Sum.inl b)=false:=d8 (fun q=>nomatch q)
noncomputable def abB(prog:Program)(w:World):PySem.KeyKind prog w Key where
 is:=an6
 hash:=keyH w
 inj:=fun v a b ha hb=>by
  rcases abC ha with ⟨i,t,rfl,rfl⟩ | ⟨x,t,rfl,rfl⟩
  ·rcases abC hb with ⟨j,u,rfl,e⟩ | ⟨y,u,rfl,e⟩
   ·injection e with e1 _;rw[e1]
   ·exact nomatch e
  ·rcases abC hb with ⟨j,u,rfl,e⟩ | ⟨y,u,rfl,e⟩
   ·exact nomatch e
   ·injection e with e1 _;rw[e1]
 byValue:=fun k v h=>by
  rcases abC h with ⟨i,t,rfl,rfl⟩ | ⟨x,t,rfl,rfl⟩<;>rfl
 pyHash:=fun hv h=>by
  rcases abC hv with ⟨i,t,rfl,rfl⟩ | ⟨x,t,rfl,rfl⟩
  ·exact wpAny_pyHash_int h
  ·exact wpAny_pyHash_str h
 eqBool:=fun hu hv h=>by
  rcases abC hu with ⟨i,t,rfl,rfl⟩ | ⟨x,t,rfl,rfl⟩
  ·rcases abC hv with ⟨j,u,rfl,rfl⟩ | ⟨y,u,rfl,rfl⟩
   ·rw[aFP] at h;exact wpAny_eqBool_int h
   ·rw[aE1] at h;exact SeqAt.EqAt.int_str i t y u _ _ _ _ h
  ·rcases abC hv with ⟨j,u,rfl,rfl⟩ | ⟨y,u,rfl,rfl⟩
   ·rw[aDC] at h;exact SeqAt.EqAt.str_int x t j u _ _ _ _ h
   ·rw[aC5] at h;exact wpAny_eqBool_str h
 «strs»:=fun k x t v h=>by
  rcases abC h with ⟨i,u,rfl,e⟩ | ⟨y,u,rfl,e⟩
  ·exact nomatch e
  ·injection e with e1 _
   subst e1
   cases v<;>rfl
theorem asC(prog:Program)(w:World)(i:Int)(t:Tok):(abB prog w).is (.inl i) (.int i t)=true:=awF i t
theorem arB(prog:Program)(w:World)(x:Str)(t:Tok):(abB prog w).is (.inr x) (.str x t)=true:=av8 x t
inductive V where
 |non | bl (b:Bool) | int (i:Int) | str (x:Str) | byt (b:Array UInt8) | flt (b:UInt64) | ref (a:Addr) | ty (n:String)
 deriving DecidableEq
noncomputable def RelV:V->Value->Prop
 |.non,u=>u=Value.none
 |.bl b,u=>u=Value.bool b
 |.int i,u=>∃t,u=Value.int i t
 |.str x,u=>∃t,u=Value.str x t
 |.byt b,u=>∃t,u=Value.bytes b t
 |.flt b,u=>∃t,u=Value.float b t
 |.ref a,u=>u=Value.ref a
 |.ty n,u=>u=Value.type n
noncomputable abbrev Vals:List V->List Value->Prop:=Paired RelV
theorem Vals.length{xs:List V}{us:List Value}(r:Vals xs us):xs.length=us.length:=Paired.length r
theorem Vals.get:∀{xs:List V} {us:List Value} {i:Nat} {x:V},Vals xs us->xs[i]? =some x->∃u,us[i]? =some u/\RelV x u
 |_,_,_,_,.nil,e=>by simp at e
 |_,_,0,_,.cons r _,e=>by simp at e;subst e;exact⟨_,rfl,r⟩
 |_,_,i+1,x,.cons _ t,e=>by
  obtain⟨u,h1,h2⟩:=Vals.get (i:=i) (x:=x) t (by simpa using e)
  exact⟨u,by simpa using h1,h2⟩
theorem Vals.set{x:V}{u:Value}(r:RelV x u):∀{xs:List V} {us:List Value} (i:Nat),Vals xs us->Vals (xs.set i x) (us.set i u)
 |_,_,_,.nil=>.nil
 |_,_,0,.cons _ t=>.cons r t
 |_,_,i+1,.cons q t=>.cons q (Vals.set r i t)
theorem Vals.append:∀{xs ys:List V} {us ws:List Value},Vals xs us->Vals ys ws->Vals (xs++ys) (us++ws)
 |_,_,_,_,.nil,s=>s
 |_,_,_,_,.cons r t,s=>.cons r (Vals.append t s)
theorem Vals.take:∀{xs:List V} {us:List Value} (n:Nat),Vals xs us->Vals (xs.take n) (us.take n)
 |_,_,0,_=>.nil
 |_,_,_+1,.nil=>.nil
 |_,_,n+1,.cons r t=>.cons r (Vals.take n t)
theorem Vals.drop:∀{xs:List V} {us:List Value} (n:Nat),Vals xs us->Vals (xs.drop n) (us.drop n)
 |_,_,0,r=>r
 |_,_,_+1,.nil=>.nil
 |_,_,n+1,.cons _ t=>Vals.drop n t
noncomputable def RelO:Option V->Option Value->Prop
 |some v,some u=>RelV v u
 |none,none=>True
 |_,_=>False
noncomputable def KV{κ:Type}:List (κ×V)->List (κ×Value)->Prop:=Paired fun (p:κ×V) (q:κ×Value)=>p.1=q.1/\RelV p.2 q.2
noncomputable def kV:Key->V
 |.inl i=>.int i
 |.inr x=>.str x
inductive HO where
 |lst (xs:List V)
 |tup (xs:List V)
 |dK (kvs:List (Key×V)) | dT (kvs:List (List Key×V))
 |set (S:Int->Bool) (n:Nat)
 |ins (C dx:Addr) (fs:List (Str×V))
 |own (x:Addr)
 |xd (fs:List (Str×V))
 |met (f x:Addr)
 |rng (lo hi:Int)
 |frz (o:Obj) (u:HO)
 |tbl (ps:Array Value)
 |ext (φ:Heap->Prop)
noncomputable abbrev Hp:=Addr->Option HO
noncomputable def upd(H:Hp)(a:Addr)(o:HO):Hp:=fun b=>if b=a then some o else H b
theorem aaA{H:Hp}{a:Addr}{o:HO}:upd H a o a=some o:=by unfold upd;rw[if_pos rfl]
theorem aaE{H:Hp}{a b:Addr}{o:HO}(h:b≠a):upd H a o b=H b:=by unfold upd;rw[if_neg h]
theorem aaN{H:Hp}{a b:Addr}{o:HO}(h:H a=some o)(h':H b=none):a≠b:=by
 intro e;subst e;rw[h] at h';cases h'
section
variable(P:Program)(w:World)
noncomputable def ObjOk(H:Hp)(h:Heap)(a:Addr):HO->Prop
 |.lst xs=>xs.length<=sizeLine/\∃(its:List Value) (n:Nat),Vals xs its/\h.get? a=some {cls:=.type "list",data:=.seq its.toArray n}
 |.tup xs=>xs.length<=sizeLine/\∃its:List Value,Vals xs its/\IsTup h a its.toArray
 |.dK kvs=>kvs.length<=sizeLine/\(a==sysModules)=false/\∃vs,KV kvs vs/\h.DictOf (abB P w) a vs
 |.dT kvs=>kvs.length<=sizeLine/\(a==sysModules)=false/\∃xs:List (List Key×Addr×Value),
   Paired (fun (p:List Key×V) (q:List Key×Addr×Value)=>p.1=q.1/\H q.2.1=some (.tup (p.1.map kV))/\RelV p.2 q.2.2) kvs xs/\
   ∃o es ep,h.get? a=some o/\o.ExactDict/\o.data=.dict es ep/\es.toList=xs.map (entryOfKey (tupleKind (abB P w)))/\(xs.map (·.1)).Nodup
 |.set S n=>h.SetOf (intKind P w) a S n
 |.ins C dx fs=>H dx=some (.own a)/\fs.length<=1000/\dx≠a/\h.get? a=some (PySem.W.instObj C dx)/\
   ∃mA,h.Ns1 dx mA/\(∀f,RelO (fs.lookup f) (mA f))/\PySem.Within mA (fs.map (·.1))
 |.own _=>∃o,h.get? a=some o
 |.xd fs=>∃mA,h.Ns1 a mA/\∀f,RelO (fs.lookup f) (mA f)
 |.rng lo hi=>∃t u v,h.get? a=some {cls:=.type "range",data:=.fields #[.int lo t,.int hi u,.int 1 v]}
 |.frz o u=>h.get? a=some o/\ObjOk H h a u
 |.tbl ps=>h.get? a=some {cls:=.none,data:=.fields ps}
 |.met f x=>h.get? a=some (PySem.W.methodObj (.ref f) (.ref x))
 |.ext φ=>φ h/\(∃o,h.get? a=some o)/\∀h1 h2:Heap,φ h1->(∀o,h1.get? a=some o->h2.get? a=some o)->φ h2
noncomputable def HOk(H:Hp)(h:Heap):Prop:=∀a o,H a=some o->ObjOk P w H h a o
end
section
variable{P:Program}{w:World}{H H':Hp}{h h':Heap}{a:Addr}{o:HO}
theorem ObjOk.lt(x:ObjOk P w H h a o):a<h.objs.size:=by
 cases o with
 |lst xs=>obtain⟨_,_,_,_,e⟩:=x;exact aY e
 |tup xs=>obtain⟨_,_,_,p⟩:=x;exact p.lt
 |dK kvs=>obtain⟨_,_,_,_,o,_,_,e,_⟩:=x;exact aY e
 |dT kvs=>obtain⟨_,_,_,_,o,_,_,e,_⟩:=x;exact aY e
 |set S n=>obtain⟨o,_,_,_,e,_⟩:=x;exact aY e
 |ins C dx fs=>obtain⟨_,_,_,e,_⟩:=x;exact aY e
 |own y=>obtain⟨_,e⟩:=x;exact aY e
 |xd fs=>obtain⟨_,⟨_,_,_,e,_⟩,_⟩:=x;exact aY e
 |rng lo hi=>obtain⟨_,_,_,e⟩:=x;exact aY e
 |frz ob u=>obtain⟨e,_⟩:=x;exact aY e
 |tbl ps=>exact aY (show h.get? a=some _ from x)
 |met f y=>exact aY (show h.get? a=some _ from x)
 |ext φ=>obtain⟨_,⟨_,e⟩,_⟩:=x;exact aY e
theorem Paired.mapP{α β:Type}{F G:α->β->Prop}:∀{l₁:List α} {l₂:List β},Paired F l₁ l₂->(∀a b,F a b->G a b)->Paired G l₁ l₂
 |_,_,.nil,_=>.nil
 |_,_,.cons r t,f=>.cons (f _ _ r) (Paired.mapP t f)
theorem Paired.imp'{α β:Type}{F G:α->β->Prop}(f:∀a b,F a b->G a b){l₁:List α}{l₂:List β}(r:Paired F l₁ l₂):Paired G l₁ l₂:=Paired.mapP r f
theorem ObjOk.stay(x:ObjOk P w H h a o)(k:∀b u,(b=a∨H b=some (.own a))->h.get? b=some u->h'.get? b=some u)
  (ho:∀b,H b=some (.own a)->H' b=some (.own a)) (ht:∀b xs,H b=some (.tup xs)->H' b=some (.tup xs)):ObjOk P w H' h' a o:=by
 induction o with
 |lst xs=>obtain⟨z,its,n,r,e⟩:=x;exact⟨z,its,n,r,k _ _ (.inl rfl) e⟩
 |tup xs=>obtain⟨z,its,r,ob,e,c⟩:=x;exact⟨z,its,r,ob,k _ _ (.inl rfl) e,c⟩
 |dK kvs=>obtain⟨z,y,vs,r,ob,es,ep,e,c⟩:=x;exact⟨z,y,vs,r,ob,es,ep,k _ _ (.inl rfl) e,c⟩
 |dT kvs=>
  obtain⟨z,y,xs,r,ob,es,ep,e,c⟩:=x
  exact⟨z,y,xs,Paired.mapP r fun p q z=>⟨z.1,ht _ _ z.2.1,z.2.2⟩,ob,es,ep,k _ _ (.inl rfl) e,c⟩
 |set S n=>obtain⟨ob,es,ep,t,e,c⟩:=x;exact⟨ob,es,ep,t,k _ _ (.inl rfl) e,c⟩
 |ins C dx fs=>
  obtain⟨d,z,ne,e,mA,⟨od,es,ep,e2,c⟩,r⟩:=x
  exact⟨ho _ d,z,ne,k _ _ (.inl rfl) e,mA,⟨od,es,ep,k _ _ (.inr d) e2,c⟩,r⟩
 |own y=>obtain⟨ob,e⟩:=x;exact⟨ob,k _ _ (.inl rfl) e⟩
 |xd fs=>obtain⟨mA,⟨od,es,ep,e,c⟩,r⟩:=x;exact⟨mA,⟨od,es,ep,k _ _ (.inl rfl) e,c⟩,r⟩
 |rng lo hi=>obtain⟨t,u,v,e⟩:=x;exact⟨t,u,v,k _ _ (.inl rfl) e⟩
 |frz ob u ih=>obtain⟨e,q⟩:=x;exact⟨k _ _ (.inl rfl) e,ih q⟩
 |tbl ps=>
  have e:h.get? a=some {cls:=.none,data:=.fields ps}:=x
  show h'.get? a=some {cls:=.none,data:=.fields ps}
  exact k a _ (.inl rfl) e
 |met f y=>
  have e:h.get? a=some (PySem.W.methodObj (.ref f) (.ref y)):=x
  show h'.get? a=some (PySem.W.methodObj (.ref f) (.ref y))
  exact k a _ (.inl rfl) e
 |ext φ=>obtain⟨p,⟨o,e⟩,st⟩:=x;exact⟨st _ _ p fun o q=>k _ _ (.inl rfl) q,⟨o,k _ _ (.inl rfl) e⟩,st⟩
theorem HOk.lt(x:HOk P w H h)(e:H a=some o):a<h.objs.size:=(x a o e).lt
theorem HOk.fresh(x:HOk P w H h)(e:h.objs.size<=a):H a=none:=by
 cases q:H a with
 |none=>rfl
 |some u=>exact absurd (a9 (x.lt q) e) (cA _)
theorem HOk.kept(x:HOk P w H h)(k:∀b u,h.get? b=some u->h'.get? b=some u):HOk P w H h':=fun a o e=>
 (x a o e).stay (fun b u _ q=>k b u q) (fun _ q=>q) fun _ _ q=>q
theorem HOk.laid(x:HOk P w H h)(k:∀b u,h.get? b=some u->h'.get? b=some u)(hp:h.objs.size<=a)(new:ObjOk P w (upd H a o) h' a o):HOk P w (upd H a o) h':=fun b u e=>by
 have hn:=x.fresh hp
 by_cases hb:b=a
 ·subst hb;rw[aaA] at e;cases e;exact new
 ·rw[aaE hb] at e
  exact (x b u e).stay (fun c v _ q=>k c v q) (fun c q=>by rw[aaE (aaN q hn)];exact q) fun c xs q=>by rw[aaE (aaN q hn)];exact q
end
noncomputable def Rd(H:Hp)(a:Addr)(u:HO):Prop:=H a=some u∨∃o,H a=some (.frz o u)
theorem Rd.ok{P:Program}{w:World}{H:Hp}{h:Heap}{a:Addr}{u:HO}(r:Rd H a u)(x:HOk P w H h):ObjOk P w H h a u:=by
 rcases r with r | ⟨o,r⟩
 ·exact x a u r
 ·obtain⟨_,q⟩:=x a _ r
  exact q
noncomputable def Mut:Option HO->Prop
 |some (.lst _)=>True
 |some (.dK _)=>True
 |some (.dT _)=>True
 |some (.set _ _)=>True
 |some (.ins _ _ _)=>True
 |some (.ext _)=>True
 |_=>False
section
variable{P:Program}{w:World}{H:Hp}{h h':Heap}{x e:Addr}{o':HO}
theorem HOk.write(ok:HOk P w H h)(mu:Mut (H x))(he:e=x∨H e=some (.own x))(k:∀b u,b≠e->h.get? b=some u->h'.get? b=some u)(heo:∃u,h'.get? e=some u)
  (new:ObjOk P w (upd H x o') h' x o'):HOk P w (upd H x o') h':=fun b u q=>by
 have nown:∀c y,H c=some (.own y)->c≠x:=fun c y r z=>by subst z;rw[r] at mu;exact mu
 have ntup:∀c xs,H c=some (.tup xs)->c≠x:=fun c xs r z=>by subst z;rw[r] at mu;exact mu
 by_cases hb:b=x
 ·subst hb;rw[aaA] at q;cases q;exact new
 ·rw[aaE hb] at q
  by_cases hbe:b=e
  ·have q':H b=some (.own x):=by
    rcases he with z | z
    ·exact absurd (hbe.trans z) hb
    ·rw[hbe];exact z
   rw[q] at q';cases q'
   obtain⟨v,hv⟩:=heo
   exact⟨v,by rw[hbe];exact hv⟩
  ·refine (ok b u q).stay (fun c v hc r=>k c v ?_ r) (fun c r=>by rw[aaE (nown c b r)];exact r) fun c xs r=>by rw[aaE (ntup c xs r)];exact r
   rcases hc with rfl | hc
   ·exact hbe
   ·rintro rfl
    rcases he with z | z
    ·exact nown c b hc z
    ·rw[hc] at z;cases z;exact hb rfl
end
structure Un(fs ex:List Addr)(H H':Hp)(h h':Heap):Prop where
 keep:∀b o,h.get? b=some o->H b=none->b∉fs->b∉ex->h'.get? b=some o
 slot:∀b o,h.get? b=some o->H b=none->b∈fs->b∉ex->∃sl,h'.get? b=some {o with slots:=sl}
 free:∀b o,h.get? b=some o->H b=none->b∉ex->H' b=none
 there:∀b o,h.get? b=some o->b∉ex->∃o',h'.get? b=some o'
 tups:∀b xs,H b=some (.tup xs)->H' b=some (.tup xs)
 frzs:∀b o u,H b=some (.frz o u)->H' b=some (.frz o u)
 tbls:∀b ps,H b=some (.tbl ps)->∃more,H' b=some (.tbl (ps++more))
section
variable{fs fs' ex ex':List Addr}{H H1 H2:Hp}{h h1 h2 h':Heap}{a x e:Addr}{o:HO}
theorem Un.any(u:Un fs ex H H1 h h1){b:Addr}{ob:Obj}(q:h.get? b=some ob)(n:H b=none)(hx:b∉ex):∃sl,h1.get? b=some {ob with slots:=sl}:=by
 by_cases hb:b∈fs
 ·exact u.slot b ob q n hb hx
 ·exact⟨ob.slots,u.keep b ob q n hb hx⟩
theorem Un.kept(k:∀b u,h.get? b=some u->h'.get? b=some u):Un fs ex H H h h':=
 ⟨fun b ob q _ _ _=>k b ob q,fun b ob q _ _ _=>⟨ob.slots,k b ob q⟩,fun _ _ _ n _=>n,fun b ob q _=>⟨ob,k b ob q⟩,fun _ _ q=>q,fun _ _ _ q=>q,fun _ ps q=>⟨#[],by rw[q];simp⟩⟩
theorem Un.refl:Un fs ex H H h h:=Un.kept fun _ _ q=>q
theorem Un.laid(k:∀b u,h.get? b=some u->h'.get? b=some u)(hp:h.objs.size<=a)(hn:H a=none):Un fs ex H (upd H a o) h h' where
 keep:=fun b u q _ _ _=>k b u q
 slot:=fun b u q _ _ _=>⟨u.slots,k b u q⟩
 free:=fun b u q n _=>by rw[aaE (bD (a9 (aY q) hp))];exact n
 there:=fun b u q _=>⟨u,k b u q⟩
 tups:=fun b xs q=>by rw[aaE (aaN q hn)];exact q
 frzs:=fun b u xs q=>by rw[aaE (aaN q hn)];exact q
 tbls:=fun b ps q=>⟨#[],by rw[aaE (aaN q hn),q];simp⟩
theorem Un.write(mu:Mut (H x))(he:e=x∨H e=some (.own x))(k:∀b u,b≠e->h.get? b=some u->h'.get? b=some u)(heo:∃u,h'.get? e=some u):Un fs ex H (upd H x o) h h':=by
 have hx:∀b,H b=none->b≠x:=fun b n z=>by subst z;rw[n] at mu;exact mu
 have hb:∀b,H b=none->b≠e:=fun b n z=>by
  subst z
  rcases he with r | r
  ·exact hx b n r
  ·rw[n] at r;cases r
 have hm:∀b u,H b=some u->¬Mut (some u)->b≠x:=fun b u q nm z=>by subst z;rw[q] at mu;exact nm mu
 refine⟨fun b u q n _ _=>k b u (hb b n) q,fun b u q n _ _=>⟨u.slots,k b u (hb b n) q⟩,fun b u q n _=>by rw[aaE (hx b n)];exact n,fun b u q _=>?_,
  fun b xs q=>by rw[aaE (hm b _ q fun z=>z)];exact q,fun b u xs q=>by rw[aaE (hm b _ q fun z=>z)];exact q,fun b ps q=>⟨#[],by rw[aaE (hm b _ q fun z=>z),q];simp⟩⟩
 by_cases hbe:b=e
 ·subst hbe;exact heo
 ·exact⟨u,k b u hbe q⟩
end
noncomputable def trk(h:Heap)(H:Hp):List Addr:=(List.range h.objs.size).filter fun a=>(H a).isSome
noncomputable def apU(h:Heap)(H:Hp):Heap:=PySem.W.hideAll h (trk h H)
theorem avS(h:Heap)(H:Hp):(apU h H).objs.size=h.objs.size:=PySem.W.hideAll_size _ _
theorem ayG{h:Heap}{H:Hp}{b:Addr}{o:Obj}(e:h.get? b=some o)(n:H b=none):(apU h H).get? b=some o:=
 PySem.W.hideAll_get _ e fun hm=>by
  have q:(H b).isSome=true:=(List.mem_filter.mp hm).2
  rw[n] at q;simp at q
theorem aB2{h:Heap}{H:Hp}{b:Addr}{o:Obj}(e:(apU h H).get? b=some o):h.get? b=some o/\H b=none:=by
 have e':h.get? b=some o:=PySem.W.of_hideAll (trk h H) e
 refine⟨e',?_⟩
 cases q:H b with
 |none=>rfl
 |some x=>
  have hm:b∈trk h H:=List.mem_filter.mpr ⟨b6.mpr (aY e'),by simp[q]⟩
  have z:(apU h H).get? b=none:=PySem.W.hideAll_none (trk h H) hm
  rw[z] at e;cases e
structure Mod(K:FG)(mg:Str->Option Value)(base:Heap):Prop where
 kin:K.In base
 glob:base.Ns mainGlobals mg
 blt:∃mb,base.Ns builtinsNs mb/\∀x:Str,x≠"__name__"->mb x=bootBuiltins x
 nolimit:base.NoLimit
structure Cx where
 prog:Program
 w:World
 K:FG
 mg:Str->Option Value
 base:Heap
 A:Around
 N:List Str
 s₀:Shared
 H₀:Hp
 env:Env
 outer:List Env
 stack:List Env
 ex:List Addr
 fn:Str->Bool
 calm:Bool
 pn:List (Addr×Obj)
 xe:Value->Shared->Prop
noncomputable def frs(l:List Env):List Addr:=l.filterMap (·.frame)
noncomputable abbrev Cx.fs(X:Cx):List Addr:=frs X.outer
noncomputable def Vis(sc:Scope)(x:Str):Prop:=sc.names.lookup x=some .local∨sc.names.lookup x=some .cell∨sc.names.lookup x=some .free
noncomputable def Loc(sc:Scope)(x:Str):Prop:=sc.names.lookup x=some .local∨sc.names.lookup x=some .cell
noncomputable def Look(env:Env)(h:Heap)(m:Str->Option Value)(x:Str)(u:Value):Prop:=
 (env.kindOf x=some .local/\m x=some u)∨((env.kindOf x=some .cell∨env.kindOf x=some .free)/\∃c,env.cells.lookup x=some c/\h.IsCell c (some u))
structure Cx.Ok(X:Cx):Prop where
 mod:Mod X.K X.mg X.base
 kind:X.env.scope.kind=.function
 glob:X.env.globals=mainGlobals
 blt:X.env.builtins=builtinsNs
 above:X.s₀.heap.objs.size<=X.env.locals
 inj:∀x y c,X.env.cells.lookup x=some c->X.env.cells.lookup y=some c->x=y
 has:∀x,(X.env.kindOf x=some .cell∨X.env.kindOf x=some .free)->∃c,X.env.cells.lookup x=some c
 cab:∀x c,X.fn x=true->X.env.cells.lookup x=some c->X.s₀.heap.objs.size<=c
 hd:X.calm=true->X.A.handled=none
 frames:X.A.frames=some X.stack
 stk:X.stack=X.outer∨(X.stack=X.env::X.outer/\X.env.frame=some X.env.locals)
 exf:∀b∈X.ex,b≠X.env.locals/\∀x c,X.env.cells.lookup x=some c->c≠b
 bs:∀b o,X.base.get? b=some o->X.s₀.heap.get? b=some o/\X.H₀ b=none
 bsz:X.base.objs.size<=X.s₀.heap.objs.size
 noex:∀b o,X.base.get? b=some o->b∉X.ex
 exfs:∀b∈X.ex,b∉X.fs
 funs:X.s₀.heap.FunFrames X.base X.outer
 frf:∀b∈X.fs,X.H₀ b=none
structure Inv(X:Cx)(pins:List (Addr×Obj))(σ:List (Option V))(H:Hp)(s:Shared):Prop where
 ok:X.Ok
 os:s.os=X.s₀.os
 bare:AllBare s.gens
 base:Un X.fs X.ex X.H₀ H X.s₀.heap s.heap
 loc:∃m,s.heap.Ns X.env.locals m/\∀(i:Nat) (x:Str) (v:V),X.N[i]? =some x->σ[i]? =some (some v)->Vis X.env.scope x->∃u,RelV v u/\Look X.env s.heap m x u
 cell:∀x c,X.env.cells.lookup x=some c->∃v,s.heap.IsCell c v
 free:H X.env.locals=none
 freeC:∀x c,X.env.cells.lookup x=some c->H c=none
 pin:∀p∈X.pn++pins,s.heap.get? p.1=some p.2/\H p.1=none/\p.1≠X.env.locals/\p.1∉X.fs/\∀v,p.2.data≠ .cell v
 hok:HOk X.prog X.w H s.heap
 len:σ.length=X.N.length
section
variable{X:Cx}{pins:List (Addr×Obj)}{σ:List (Option V)}{H H':Hp}{s:Shared}{h':Heap}
theorem Cx.Ok.nofr(ok:X.Ok){b:Addr}{o:Obj}(e:X.base.get? b=some o):b∉X.fs:=fun hb=>by
 have:=(ok.funs.mem hb).1
 rw[e] at this;cases this
theorem Inv.bs(I:Inv X pins σ H s):∀b o,X.base.get? b=some o->s.heap.get? b=some o/\H b=none:=fun b o e=>
 ⟨I.base.keep b o (I.ok.bs b o e).1 (I.ok.bs b o e).2 (I.ok.nofr e) (I.ok.noex b o e),I.base.free b o (I.ok.bs b o e).1 (I.ok.bs b o e).2 (I.ok.noex b o e)⟩
theorem Inv.bk(I:Inv X pins σ H s):∀b o,X.base.get? b=some o->s.heap.get? b=some o:=fun b o e=>(I.bs b o e).1
theorem Inv.mod(I:Inv X pins σ H s):Mod X.K X.mg X.base:=I.ok.mod
theorem Inv.kIn(I:Inv X pins σ H s):X.K.In s.heap:=I.ok.mod.kin.keeps I.bk
theorem Inv.lt(I:Inv X pins σ H s):X.env.locals<s.heap.objs.size:=let ⟨_,hn,_⟩:=I.loc;hn.lt
theorem Inv.sz(I:Inv X pins σ H s):X.s₀.heap.objs.size<=s.heap.objs.size:=bT I.ok.above (Nat.le_of_lt I.lt)
theorem Inv.nofs(I:Inv X pins σ H s){a:Addr}(h:s.heap.objs.size<=a):a∉X.fs:=fun hb=>by
 obtain⟨_,o,ho,_⟩:=I.ok.funs.mem hb
 exact absurd (a9 (aY ho) (bT I.sz h)) (cA _)
theorem Inv.cne(I:Inv X pins σ H s):∀x c,X.env.cells.lookup x=some c->c≠X.env.locals:=fun x c e z=>by
 obtain⟨v,o,ho,hd⟩:=I.cell x c e
 obtain⟨m,⟨o',es,ep,ho',hd',_⟩,_⟩:=I.loc
 rw[z,ho'] at ho;cases ho;rw[hd'] at hd;cases hd
theorem Inv.funs(I:Inv X pins σ H s):s.heap.FunFrames X.base X.outer:=by
 have all:∀(l:List Env),(∀b∈frs l,b∈X.fs)->X.s₀.heap.FunFrames X.base l->s.heap.FunFrames X.base l:=by
  intro l
  induction l with
  |nil=>intro _ _;trivial
  |cons env r ih=>
   intro hs hl
   obtain⟨hk,⟨L,o,hf,hn,ho,hd⟩,hr⟩:=hl
   have hL:L∈X.fs:=hs L (by unfold frs;rw[cU,hf];exact bO)
   obtain⟨sl,e⟩:=I.base.slot L o ho (I.ok.frf L hL) hL fun z=>I.ok.exfs L z hL
   exact⟨hk,⟨L,_,hf,hn,e,hd⟩,ih (fun b hb=>hs b (by unfold frs;rw[cU,hf];exact bF _ hb)) hr⟩
 exact all X.outer (fun _ hb=>hb) I.ok.funs
theorem Inv.stack(I:Inv X pins σ H s):s.heap.FunFrames X.base X.stack:=by
 rcases I.ok.stk with e | ⟨e,hf⟩
 ·rw[e];exact I.funs
 ·rw[e]
  obtain⟨m,hn,_⟩:=I.loc
  refine .cons (by rw[I.ok.kind];decide) hf hn ?_ I.funs
  exact Heap.get?_none_of_le (bT I.ok.bsz I.ok.above)
theorem Inv.stkSub(I:Inv X pins σ H s):∀b∈frs X.stack,b∈X.env.locals::X.fs:=fun b hb=>by
 rcases I.ok.stk with e | ⟨e,hf⟩
 ·rw[e] at hb;exact bF _ hb
 ·rw[e] at hb
  unfold frs at hb
  rw[cU,hf] at hb
  exact hb
theorem Inv.stkFree(I:Inv X pins σ H s):∀b∈frs X.stack,H b=none:=fun b hb=>by
 rcases aX.mp (I.stkSub b hb) with e | hb
 ·rw[e];exact I.free
 ·obtain⟨_,o,ho,_⟩:=I.ok.funs.mem hb
  exact I.base.free b o ho (I.ok.frf b hb) fun z=>I.ok.exfs b z hb
theorem Inv.step{g':Array GenState}{t':Nat}{d':Drawn}{ch:List Addr}(I:Inv X pins σ H s)
  (hch:∀b∈ch,(b∈X.ex∨X.s₀.heap.objs.size<=b)/\b≠X.env.locals/\(∀x c,X.env.cells.lookup x=some c->c≠b)/\∀p∈X.pn++pins,p.1≠b)
  (keep:∀b o,b≠X.env.locals->b∉X.fs->b∉ch->s.heap.get? b=some o->H b=none->h'.get? b=some o)
  (slot:∀b o,b≠X.env.locals->b∈X.fs->b∉ch->s.heap.get? b=some o->H b=none->∃sl,h'.get? b=some {o with slots:=sl}) (free:∀b o,b∉ch->s.heap.get? b=some o->H b=none->H' b=none)
  (there:∀b o,b∉ch->s.heap.get? b=some o->∃o',h'.get? b=some o')
  (tups:∀b xs,H b=some (.tup xs)->H' b=some (.tup xs)) (frzs:∀b o u,H b=some (.frz o u)->H' b=some (.frz o u)) (tbls:∀b ps,H b=some (.tbl ps)->∃more,H' b=some (.tbl (ps++more)))
  (ns:∀m,s.heap.Ns X.env.locals m->h'.Ns X.env.locals m) (hok:HOk X.prog X.w H' h') (hg:AllBare g'):
  Inv X pins σ H' {s with heap:=h',gens:=g',drawn:=d',toks:=t'}:=by
 have neL:∀b o,X.s₀.heap.get? b=some o->b≠X.env.locals:=fun b o e=>bD (a9 (aY e) I.ok.above)
 have neC:∀b o,X.s₀.heap.get? b=some o->b∉X.ex->b∉ch:=fun b o e hx hb=>by
  rcases (hch b hb).1 with z | z
  ·exact hx z
  ·exact absurd (a9 (aY e) z) (cA _)
 have cellK:∀x c,X.env.cells.lookup x=some c->∀v,s.heap.IsCell c v->h'.IsCell c v:=fun x c e v ⟨o,ho,hd⟩=>by
  have nch:c∉ch:=fun z=>(hch c z).2.2.1 x c e rfl
  by_cases hc:c∈X.fs
  ·obtain⟨sl,q⟩:=slot c o (I.cne x c e) hc nch ho (I.freeC x c e)
   exact⟨_,q,hd⟩
  ·exact⟨o,keep c o (I.cne x c e) hc nch ho (I.freeC x c e),hd⟩
 refine⟨I.ok,I.os,hg,⟨fun b o e n hb hx=>?_,fun b o e n hb hx=>?_,fun b o e n hx=>?_,fun b o e hx=>?_,fun b xs e=>tups b xs (I.base.tups b xs e),fun b o xs e=>frzs b o xs (I.base.frzs b o xs e),fun b ps e=>?_⟩,?_,fun x c e=>?_,?_,fun x c e=>?_,fun p hp=>?_,hok,I.len⟩
 ·exact keep b o (neL b o e) hb (neC b o e hx) (I.base.keep b o e n hb hx) (I.base.free b o e n hx)
 ·obtain⟨sl,e1⟩:=I.base.slot b o e n hb hx
  obtain⟨sl',e2⟩:=slot b _ (neL b o e) hb (neC b o e hx) e1 (I.base.free b o e n hx)
  exact⟨sl',e2⟩
 ·obtain⟨o',e1⟩:=I.base.there b o e hx
  exact free b o' (neC b o e hx) e1 (I.base.free b o e n hx)
 ·obtain⟨o',e1⟩:=I.base.there b o e hx
  exact there b o' (neC b o e hx) e1
 ·obtain⟨m1,e1⟩:=I.base.tbls b ps e
  obtain⟨m2,e2⟩:=tbls b _ e1
  exact⟨m1++m2,by rw[e2,Array.append_assoc]⟩
 ·obtain⟨m,hn,hl⟩:=I.loc
  refine⟨m,ns m hn,fun i x v e1 e2 e3=>?_⟩
  obtain⟨u,r,l⟩:=hl i x v e1 e2 e3
  refine⟨u,r,?_⟩
  rcases l with l | ⟨k,c,e,z⟩
  ·exact .inl l
  ·exact .inr ⟨k,c,e,cellK x c e _ z⟩
 ·obtain⟨v,z⟩:=I.cell x c e
  exact⟨v,cellK x c e v z⟩
 ·obtain⟨m,⟨o,_,_,ho,_⟩,_⟩:=I.loc
  exact free _ o (fun z=>(hch _ z).2.1 rfl) ho I.free
 ·obtain⟨v,o,ho,hd⟩:=I.cell x c e
  exact free c o (fun z=>(hch c z).2.2.1 x c e rfl) ho (I.freeC x c e)
 ·obtain⟨e,n,ne,nf,d⟩:=I.pin p hp
  have nch:p.1∉ch:=fun z=>(hch p.1 z).2.2.2 p hp rfl
  exact⟨keep p.1 p.2 ne nf nch e n,free p.1 p.2 nch e n,ne,nf,d⟩
theorem Inv.un{t':Nat}(I:Inv X pins σ H s)(u:Un X.fs [] H H' s.heap h')(hok:HOk X.prog X.w H' h'):Inv X pins σ H' {s with heap:=h',toks:=t'}:=by
 obtain⟨m,⟨o,es,ep,ho,r⟩,_⟩:=id I.loc
 obtain⟨sl,hL⟩:=u.any ho I.free (by simp)
 exact I.step (g':=s.gens) (d':=s.drawn) (ch:=[]) (fun _ z=>nomatch z) (fun b o _ hb _ e n=>u.keep b o e n hb (by simp)) (fun b o _ hb _ e n=>u.slot b o e n hb (by simp)) (fun b o _ e n=>u.free b o e n (by simp)) (fun b o _ e=>u.there b o e (by simp)) u.tups u.frzs u.tbls (fun m' hm=>by
  obtain⟨o',es',ep',ho',r'⟩:=hm
  rw[ho] at ho';cases ho'
  exact⟨_,es',ep',hL,r'⟩) hok I.bare
theorem Inv.call{g':Array GenState}{t':Nat}{d':Drawn}{ch:List Addr}(I:Inv X pins σ H s)(u:Un (frs X.stack) ch H H' s.heap h')(hok:HOk X.prog X.w H' h')(hg:AllBare g')
  (hch:∀b∈ch,(b∈X.ex∨X.s₀.heap.objs.size<=b)/\b≠X.env.locals/\(∀x c,X.env.cells.lookup x=some c->c≠b)/\∀p∈X.pn++pins,p.1≠b):
  Inv X pins σ H' {s with heap:=h',gens:=g',drawn:=d',toks:=t'}:=by
 obtain⟨m,⟨o,es,ep,ho,r⟩,_⟩:=id I.loc
 obtain⟨sl,hL⟩:=u.any ho I.free fun z=>(hch _ z).2.1 rfl
 exact I.step (ch:=ch) hch (fun b o hL hb hc e n=>u.keep b o e n (fun z=>(aX.mp (I.stkSub b z)).elim hL hb) hc) (fun b o _ _ hc e n=>u.any e n hc) (fun b o hc e n=>u.free b o e n hc) (fun b o hc e=>u.there b o e hc) u.tups u.frzs u.tbls (fun m' hm=>by
  obtain⟨o',es',ep',ho',r'⟩:=hm
  rw[ho] at ho';cases ho'
  exact⟨_,es',ep',hL,r'⟩) hok hg
theorem Inv.turned{t':Nat}{it:Addr}(I:Inv X pins σ H s)(k:∀b o,b≠it->s.heap.get? b=some o->h'.get? b=some o)(hn:H it=none)(hL:it≠X.env.locals)
  (h1:it∈X.ex∨X.s₀.heap.objs.size<=it) (h2:∀x c,X.env.cells.lookup x=some c->c≠it) (h3:∀p∈X.pn++pins,p.1≠it):Inv X pins σ H {s with heap:=h',toks:=t'}:=by
 have nit:∀b u,H b=some u->b≠it:=fun b u e z=>by rw[z,hn] at e;cases e
 refine I.step (g':=s.gens) (d':=s.drawn) (ch:=[it]) (fun b hb=>?_) (fun b o _ _ hc e _=>k b o (fun z=>hc (by simp[z])) e) (fun b o _ _ hc e _=>⟨o.slots,k b o (fun z=>hc (by simp[z])) e⟩) (fun _ _ _ _ n=>n)
  (fun b o hc e=>⟨o,k b o (fun z=>hc (by simp[z])) e⟩) (fun _ _ e=>e) (fun _ _ _ e=>e) (fun b ps e=>⟨#[],by rw[e];simp⟩) (fun m hm=>?_) (fun b u e=>?_) I.bare
 ·have e:b=it:=by simpa using hb
  subst e
  exact⟨h1,hL,h2,h3⟩
 ·obtain⟨o,es,ep,ho,r⟩:=hm
  exact⟨o,es,ep,k _ o (Ne.symm hL) ho,r⟩
 ·refine (I.hok b u e).stay (fun c v hc q=>k c v ?_ q) (fun _ q=>q) fun _ _ q=>q
  rcases hc with z | z
  ·rw[z];exact nit b u e
  ·exact nit c _ z
theorem Inv.tok(I:Inv X pins σ H s)(t:Nat):Inv X pins σ H {s with toks:=t}:=I.un (h':=s.heap) (t':=t) Un.refl I.hok
theorem Inv.kept{t':Nat}(I:Inv X pins σ H s)(k:∀b u,s.heap.get? b=some u->h'.get? b=some u):Inv X pins σ H {s with heap:=h',toks:=t'}:=I.un (Un.kept k) (I.hok.kept k)
theorem Inv.laid{a:Addr}{o:HO}{t':Nat}(I:Inv X pins σ H s)(k:∀b u,s.heap.get? b=some u->h'.get? b=some u)(hp:s.heap.objs.size<=a)(new:ObjOk X.prog X.w (upd H a o) h' a o):
  Inv X pins σ (upd H a o) {s with heap:=h',toks:=t'}:=I.un (Un.laid k hp (I.hok.fresh hp)) (I.hok.laid k hp new)
theorem Inv.write{x e:Addr}{o:HO}{t':Nat}(I:Inv X pins σ H s)(mu:Mut (H x))(he:e=x∨H e=some (.own x))(k:∀b u,b≠e->s.heap.get? b=some u->h'.get? b=some u)(heo:∃u,h'.get? e=some u)
  (new:ObjOk X.prog X.w (upd H x o) h' x o):Inv X pins σ (upd H x o) {s with heap:=h',toks:=t'}:=I.un (Un.write mu he k heo) (I.hok.write mu he k heo new)
theorem Inv.pins_of{pins':List (Addr×Obj)}(I:Inv X pins σ H s)(h:∀p∈pins',s.heap.get? p.1=some p.2/\H p.1=none/\p.1≠X.env.locals/\p.1∉X.fs/\∀v,p.2.data≠ .cell v):Inv X pins' σ H s:=
 ⟨I.ok,I.os,I.bare,I.base,I.loc,I.cell,I.free,I.freeC,fun p hp=>(bZ.mp hp).elim (fun z=>I.pin p (List.mem_append_left _ z)) (h p),I.hok,I.len⟩
theorem aqW{N:List Str}(hN:N.Nodup){i j:Nat}{x:Str}(a:N[i]? =some x)(b:N[j]? =some x):i=j:=by
 obtain⟨h1,e1⟩:=cE.mp a
 obtain⟨h2,e2⟩:=cE.mp b
 exact (List.getElem_inj hN).mp (e1.trans e2.symm)
theorem ah8{M:Model}{A:Around}{E:Value->Shared->Prop}{i:Nat}{x:Str}{v:V}{u:Value}{Q:Unit->Shared->Prop}(I:Inv X pins σ H s)(hN:X.N.Nodup)(hi:X.N[i]? =some x)(hx:Loc X.env.scope x)(r:RelV v u)
  (h:∀s',Inv X pins (σ.set i (some v)) H s'->(∃a,Heap.SameBut a s.heap s'.heap/\(a=X.env.locals∨X.env.cells.lookup x=some a))->Q () s') (hf:X.fn x=true∨X.env.scope.names.lookup x=some .local:=by first | exact .inl rfl | exact .inr rfl | assumption):wpAny M A (storeName X.env x u) Q E s:=by
 obtain⟨m,hn,hl⟩:=id I.loc
 have hcls:(X.env.scope.kind== .class||(X.env.scope.kind== .module&&X.env.locals !=X.env.globals))=false:=by rw[I.ok.kind];rfl
 have hiσ:i<σ.length:=by rw[I.len];exact (cE.mp hi).1
 have cne:=I.cne
 have tracked:∀{a:Addr} {h':Heap},(∃o,s.heap.get? a=some o/\H a=none)->Heap.SameBut a s.heap h'->HOk X.prog X.w H h':=fun {a h'} ha hs b ob e=>by
  obtain⟨_,_,hfree⟩:=ha
  refine (I.hok b ob e).stay (fun c w' hc q=>(hs.2 c ?_).trans q) (fun _ q=>q) fun _ _ q=>q
  rintro rfl
  rcases hc with rfl | hc
  ·rw[hfree] at e;cases e
  ·rw[hfree] at hc;cases hc
 rcases hx with hk | hk
 ·refine wpAny_storeName_local hk hn (fun h' hn' hs=>?_) hcls
  obtain⟨oL,_,_,hoL,_⟩:=id hn
  refine h _ ⟨I.ok,I.os,I.bare,⟨fun b o e n hb hx=>?_,fun b o e n hb hx=>?_,I.base.free,fun b o e hx=>?_,I.base.tups,I.base.frzs,I.base.tbls⟩,⟨_,hn',fun j y v' e1 e2 e3=>?_⟩,fun y c e=>?_,I.free,I.freeC,fun p hp=>?_,tracked ⟨oL,hoL,I.free⟩ hs,by simpa using I.len⟩ ⟨_,hs,.inl rfl⟩
  ·exact (hs.2 b (bD (a9 (aY e) I.ok.above))).trans (I.base.keep b o e n hb hx)
  ·obtain⟨sl,e1⟩:=I.base.slot b o e n hb hx
   exact⟨sl,(hs.2 b (bD (a9 (aY e) I.ok.above))).trans e1⟩
  ·obtain⟨o',e1⟩:=I.base.there b o e hx
   exact⟨o',(hs.2 b (bD (a9 (aY e) I.ok.above))).trans e1⟩
  ·by_cases hj:j=i
   ·subst hj
    rw[hi] at e1;cases e1
    rw[List.getElem?_set_self hiσ] at e2
    cases e2
    exact⟨u,r,.inl ⟨hk,by simp⟩⟩
   ·rw[List.getElem?_set_ne (Ne.symm hj)] at e2
    obtain⟨u',r',q⟩:=hl j y v' e1 e2 e3
    refine⟨u',r',?_⟩
    rcases q with ⟨k,e⟩ | ⟨k,c,e,z⟩
    ·refine .inl ⟨k,?_⟩
     have:y≠x:=fun e=>hj (aqW hN e1 (e▸hi))
     simp[this,e]
    ·exact .inr ⟨k,c,e,z.sameBut hs (cne y c e)⟩
  ·obtain⟨w',z⟩:=I.cell y c e
   exact⟨w',z.sameBut hs (cne y c e)⟩
  ·obtain⟨e,n,ne,nf,d⟩:=I.pin p hp
   exact⟨(hs.2 p.1 ne).trans e,n,ne,nf,d⟩
 ·have hfn:X.fn x=true:=by
   rcases hf with z | z
   ·exact z
   ·rw[z] at hk;cases hk
  obtain⟨c,hc⟩:=I.ok.has x (.inl hk)
  obtain⟨w',z⟩:=I.cell x c hc
  refine wpAny_storeName_cell I.ok.kind hk hc z (fun h' hc' hs=>?_)
  obtain⟨oc,hoc,hocd⟩:=id z
  refine h {s with heap:=h'} ⟨I.ok,I.os,I.bare,⟨fun b o e n hb hx=>?_,fun b o e n hb hx=>?_,I.base.free,fun b o e hx=>?_,I.base.tups,I.base.frzs,I.base.tbls⟩,⟨m,hn.sameBut hs (Ne.symm (cne x c hc)),fun j y v' e1 e2 e3=>?_⟩,fun y c' e=>?_,I.free,I.freeC,fun p hp=>?_,tracked ⟨oc,hoc,I.freeC x c hc⟩ hs,by simpa using I.len⟩ ⟨c,hs,.inr hc⟩
  ·exact (hs.2 b (bD (a9 (aY e) (I.ok.cab x c hfn hc)))).trans (I.base.keep b o e n hb hx)
  ·obtain⟨sl,e1⟩:=I.base.slot b o e n hb hx
   exact⟨sl,(hs.2 b (bD (a9 (aY e) (I.ok.cab x c hfn hc)))).trans e1⟩
  ·obtain⟨o',e1⟩:=I.base.there b o e hx
   exact⟨o',(hs.2 b (bD (a9 (aY e) (I.ok.cab x c hfn hc)))).trans e1⟩
  ·by_cases hj:j=i
   ·subst hj
    rw[hi] at e1;cases e1
    rw[List.getElem?_set_self hiσ] at e2
    cases e2
    exact⟨u,r,.inr ⟨.inl hk,c,hc,hc'⟩⟩
   ·rw[List.getElem?_set_ne (Ne.symm hj)] at e2
    obtain⟨u',r',q⟩:=hl j y v' e1 e2 e3
    refine⟨u',r',?_⟩
    rcases q with q | ⟨k,c',e,z'⟩
    ·exact .inl q
    ·refine .inr ⟨k,c',e,z'.sameBut hs ?_⟩
     rintro rfl
     exact hj (aqW hN e1 (I.ok.inj _ _ _ e hc▸hi))
  ·by_cases hcc:c'=c
   ·subst hcc;exact⟨_,hc'⟩
   ·obtain⟨w2,z2⟩:=I.cell y c' e
    exact⟨w2,z2.sameBut hs hcc⟩
  ·obtain⟨e,n,ne,nf,d⟩:=I.pin p hp
   refine⟨(hs.2 p.1 ?_).trans e,n,ne,nf,d⟩
   intro q
   rw[q,hoc] at e
   have q':oc=p.2:=bA e
   exact d w' (by rw[←q'];exact hocd)
theorem alH{M:Model}{A:Around}{E:Value->Shared->Prop}{i:Nat}{x:Str}{v:V}{u:Value}{Q:Unit->Shared->Prop}(I:Inv X pins σ H s)(hN:X.N.Nodup)(hi:X.N[i]? =some x)(hx:Loc X.env.scope x)(r:RelV v u)
  (h:∀s',Inv X pins (σ.set i (some v)) H s'->Q () s') (hf:X.fn x=true∨X.env.scope.names.lookup x=some .local:=by first | exact .inl rfl | exact .inr rfl | assumption):wpAny M A (storeName X.env x u) Q E s:=
 ah8 I hN hi hx r (fun s' I' _=>h s' I') hf
theorem Inv.call'{s':Shared}{ch:List Addr}(I:Inv X pins σ H s)(ho:s'.os=s.os)(u:Un (frs X.stack) ch H H' s.heap s'.heap)(hok:HOk X.prog X.w H' s'.heap)(hg:AllBare s'.gens)
  (hch:∀b∈ch,(b∈X.ex∨X.s₀.heap.objs.size<=b)/\b≠X.env.locals/\(∀x c,X.env.cells.lookup x=some c->c≠b)/\∀p∈X.pn++pins,p.1≠b):Inv X pins σ H' s':=by
 obtain⟨h',g',d',t',o'⟩:=s'
 have e:o'=s.os:=ho
 subst e
 exact I.call (g':=g') (t':=t') (d':=d') u hok hg hch
end
noncomputable abbrev XK:=Value->Option Addr->Hp->Prop
noncomputable abbrev St:=List (Option V)
noncomputable abbrev VK:=V->Hp->Prop
noncomputable abbrev TE:=St->Hp->VK->Prop
noncomputable abbrev TT:=St->Hp->(Bool->Hp->Prop)->Prop
noncomputable abbrev TA:=St->Hp->(List V->Hp->Prop)->Prop
structure Ends where
 nx:St->Hp->Prop
 rt:VK
 bk:St->Hp->Prop:=fun _ _=>False
 ct:St->Hp->Prop:=fun _ _=>False
noncomputable abbrev TS:=Ends->St->Hp->Prop
noncomputable def EP(X:Cx)(pins:List (Addr×Obj))(σ:St)(Q:VK)(u:Value)(s':Shared):Prop:=∃v H',Inv X pins σ H' s'/\RelV v u/\Q v H'
noncomputable def TP(X:Cx)(pins:List (Addr×Obj))(σ:St)(Q:Bool->Hp->Prop)(b:Bool)(s':Shared):Prop:=∃H',Inv X pins σ H' s'/\Q b H'
noncomputable def AP(X:Cx)(pins:List (Addr×Obj))(σ:St)(Q:List V->Hp->Prop)(us:List Value)(s':Shared):Prop:=∃vs H',Inv X pins σ H' s'/\Vals vs us/\Q vs H'
noncomputable def SP(X:Cx)(pins:List (Addr×Obj))(D:Ends)(f:Flow)(s':Shared):Prop:=
 match f with
 |.next=>∃σ' H',Inv X pins σ' H' s'/\D.nx σ' H'
 |.brk=>∃σ' H',Inv X pins σ' H' s'/\D.bk σ' H'
 |.cont=>∃σ' H',Inv X pins σ' H' s'/\D.ct σ' H'
 |.ret u=>∃v σ' H',Inv X pins σ' H' s'/\RelV v u/\D.rt v H'
noncomputable def PE(X:Cx)(e:Expr)(t:TE):Prop:=
 ∀(pins:List (Addr×Obj)) (s:Shared) (σ:St) (H:Hp) (Q:VK),Inv X pins σ H s->t σ H Q->wpAny (model X.prog X.w) X.A (eval e X.env) (EP X pins σ Q) X.xe s
noncomputable def PT(X:Cx)(e:Expr)(t:TT):Prop:=
 ∀(pins:List (Addr×Obj)) (s:Shared) (σ:St) (H:Hp) (Q:Bool->Hp->Prop),Inv X pins σ H s->t σ H Q->wpAny (model X.prog X.w) X.A (isTrue e X.env (eval e X.env)) (TP X pins σ Q) X.xe s
noncomputable def PW(X:Cx)(e:Expr)(t:TT):Prop:=
 ∀(whole:Sem Value) (pins:List (Addr×Obj)) (s:Shared) (σ:St) (H:Hp) (Q:Bool->Hp->Prop),Inv X pins σ H s->t σ H Q->wpAny (model X.prog X.w) X.A (isTrue e X.env whole) (TP X pins σ Q) X.xe s
theorem PW.pt{X:Cx}{e:Expr}{t:TT}(h:PW X e t):PT X e t:=h _
noncomputable def PA(X:Cx)(es:List Expr)(t:TA):Prop:=
 ∀(pos:Pos) (pins:List (Addr×Obj)) (s:Shared) (σ:St) (H:Hp) (Q:List V->Hp->Prop),Inv X pins σ H s->t σ H Q->wpAny (model X.prog X.w) X.A (spliced (backTo pos (starEach es X.env))) (AP X pins σ Q) X.xe s
noncomputable def PS(X:Cx)(st:Stmt)(t:TS):Prop:=
 ∀(pins:List (Addr×Obj)) (s:Shared) (σ:St) (H:Hp) (D:Ends),Inv X pins σ H s->t D σ H->wpAny (model X.prog X.w) X.A (exec st X.env) (SP X pins D) X.xe s
noncomputable def PSs(X:Cx)(st:List Stmt)(t:TS):Prop:=
 ∀(pins:List (Addr×Obj)) (s:Shared) (σ:St) (H:Hp) (D:Ends),Inv X pins σ H s->t D σ H->wpAny (model X.prog X.w) X.A (execs st X.env) (SP X pins D) X.xe s
theorem thn{α:Type}{t:Sem α}{Q Q':α->Shared->Prop}{M:Model}{A:Around}{E:Value->Shared->Prop}{s:Shared}(h:wpAny M A t Q E s)(hQ:∀a s,Q a s->Q' a s):wpAny M A t Q' E s:=dX h hQ fun _ _ x=>x
section
variable{X:Cx}
noncomputable def awS(i:Nat):TE:=fun σ H Q=>∃v,σ[i]? =some (some v)/\Q v H
noncomputable def tC(v:V):TE:=fun _ H Q=>Q v H
theorem azT{i:Nat}{x:Str}{pos:Pos}(hN:X.N[i]? =some x)(hv:Vis X.env.scope x)(hd:(x==("__debug__":Str))=false:=by decide)(hcd:(x==("__classdict__":Str))=false:=by decide):PE X (.Name x pos) (awS i):=by
 intro pins s σ H Q I h
 obtain⟨v,e,h⟩:=h
 obtain⟨m,hn,hl⟩:=I.loc
 obtain⟨u,r,l⟩:=hl i x v hN e hv
 have fin:EP X pins σ Q u s:=⟨v,H,I,r,h⟩
 rcases l with ⟨hk,hm⟩ | ⟨hk,c,hc,hcell⟩
 ·exact wpAny_Name (wpAny_loadName_local I.ok.kind hk hn hm fin) hd
 ·rcases hk with hk | hk
  ·exact wpAny_Name (wpAny_loadName_cell I.ok.kind hk hc hcell fin) hd
  ·exact wpAny_Name (wpAny_loadName_free I.ok.kind hk hc hcell fin hcd) hd
theorem as1{i j pos}:PE X (.Constant (.int i) j pos) (tC (.int i)):=fun _ _ _ H _ I h=>wpAny_Constant_int ⟨.int i,H,I.tok _,⟨_,rfl⟩,h⟩
theorem aKZ{b j pos}:PE X (.Constant (.bool b) j pos) (tC (.bl b)):=fun _ _ _ H _ I h=>Constant_bool ⟨.bl b,H,I,rfl,h⟩
theorem aDD{j pos}:PE X (.Constant .none j pos) (tC .non):=fun _ _ _ H _ I h=>Constant_none ⟨.non,H,I,rfl,h⟩
theorem ayH{x j pos}:PE X (.Constant (.str x) j pos) (tC (.str x)):=fun _ _ _ H _ I h=>Calls.Constant_str ⟨.str x,H,I.tok _,⟨_,rfl⟩,h⟩
noncomputable def Gl(X:Cx)(x:Str):Prop:=X.env.kindOf x=some .globalImplicit
theorem adX{E:Value->Shared->Prop}{pins:List (Addr×Obj)}{s:Shared}{σ:St}{H:Hp}{x:Str}{u:Value}{pos:Pos}{Q:Value->Shared->Prop}(I:Inv X pins σ H s)(hg:Gl X x)(hm:X.mg x=some u)(h:Q u s)
  (hd:(x==("__debug__":Str))=false:=by decide):wpAny (model X.prog X.w) X.A (eval (.Name x pos) X.env) Q E s:=
 Calls.Name_function_global I.ok.kind hg (Calls.loadGlobal_global (by rw[I.ok.glob];exact I.mod.glob.keeps I.bk) hm h) hd
theorem aeQ{E:Value->Shared->Prop}{pins:List (Addr×Obj)}{s:Shared}{σ:St}{H:Hp}{x:Str}{u:Value}{pos:Pos}{Q:Value->Shared->Prop}(I:Inv X pins σ H s)(hg:Gl X x)(hm:X.mg x=none)(hv:bootBuiltins x=some u)(h:Q u s)
  (hn:x≠"__name__":=by decide) (hd:(x==("__debug__":Str))=false:=by decide):wpAny (model X.prog X.w) X.A (eval (.Name x pos) X.env) Q E s:=by
 obtain⟨mb,h1,h2⟩:=I.mod.blt
 exact Calls.Name_function_global I.ok.kind hg (Calls.loadGlobal_builtin (by rw[I.ok.glob];exact I.mod.glob.keeps I.bk) hm (by rw[I.ok.blt];exact h1.keeps I.bk) ((h2 x hn).trans hv) h) hd
theorem aA1{x:Str}{v:V}{u:Value}{pos:Pos}(hg:Gl X x)(hm:X.mg x=some u)(r:RelV v u)(hd:(x==("__debug__":Str))=false:=by decide):PE X (.Name x pos) (tC v):=
 fun _ _ _ H _ I h=>adX I hg hm ⟨v,H,I,r,h⟩ hd
theorem aAW{x:Str}{v:V}{u:Value}{pos:Pos}(hg:Gl X x)(hm:X.mg x=none)(hv:bootBuiltins x=some u)(r:RelV v u)(hn:x≠"__name__":=by decide)(hd:(x==("__debug__":Str))=false:=by decide):PE X (.Name x pos) (tC v):=
 fun _ _ _ H _ I h=>aeQ I hg hm hv ⟨v,H,I,r,h⟩ hn hd
variable{a b:Expr}{ta tb:TE}{pos:Pos}
noncomputable def tB(t:TE):TT:=fun σ H Q=>t σ H fun x H1=>∃c,x=.bl c/\Q c H1
theorem aEJ{e:Expr}{t:TE}(h:PE X e t)(he:∀whole,isTrue e X.env whole=(do let v ←whole;standAt e.pos;holding [v] (truthy v)):=by intro _;rfl):PT X e (tB t):=by
 intro pins s σ H Q I hw
 refine isTrue_plain (thn (h pins s σ H _ I hw) fun v s1 ⟨x,H1,I1,r1,q1⟩=>?_) (he _)
 obtain⟨d,rfl,q⟩:=q1
 cases r1
 exact eE ⟨H1,I1,q⟩
variable{tA tB':TT}{rest:List Expr}
noncomputable def aKE(t u:TT):TT:=fun σ H Q=>t σ H fun c H1=>if c=true then u σ H1 Q else Q false H1
noncomputable def tOr(t u:TT):TT:=fun σ H Q=>t σ H fun c H1=>if c=true then Q true H1 else u σ H1 Q
noncomputable def aL0(t:TT):TT:=fun σ H Q=>t σ H fun c H1=>Q (!c) H1
theorem aBD(ha:PT X a tA):PW X (.BoolOp .And [a] pos) tA:=by
 intro wh pins s σ H Q I h
 refine isTrue_and (thn (ha pins s σ H Q I h) fun c s1 e=>?_)
 cases c with
 |true=>exact isTrue_and_nil e
 |false=>exact e
theorem aET(ha:PT X a tA):PW X (.BoolOp .Or [a] pos) tA:=by
 intro wh pins s σ H Q I h
 refine isTrue_or (thn (ha pins s σ H Q I h) fun c s1 e=>?_)
 cases c with
 |false=>exact isTrue_or_nil e
 |true=>exact e
theorem aFO(ha:PT X a tA)(hb:PW X (.BoolOp .And (b::rest) pos) tB'):PW X (.BoolOp .And (a::b::rest) pos) (aKE tA tB'):=by
 intro wh pins s σ H Q I h
 refine isTrue_and (thn (ha pins s σ H _ I h) fun c s1 ⟨H1,I1,q1⟩=>?_)
 cases c with
 |true=>exact hb wh pins s1 σ H1 Q I1 q1
 |false=>exact⟨H1,I1,q1⟩
theorem aMO(ha:PT X a tA)(hb:PW X (.BoolOp .Or (b::rest) pos) tB'):PW X (.BoolOp .Or (a::b::rest) pos) (tOr tA tB'):=by
 intro wh pins s σ H Q I h
 refine isTrue_or (thn (ha pins s σ H _ I h) fun c s1 ⟨H1,I1,q1⟩=>?_)
 cases c with
 |true=>exact⟨H1,I1,q1⟩
 |false=>exact hb wh pins s1 σ H1 Q I1 q1
theorem aD1(ha:PT X a tA):PT X (.UnaryOp .Not a pos) (aL0 tA):=by
 intro pins s σ H Q I h
 exact isTrue_not (ha pins s σ H (fun c H1=>Q (!c) H1) I h)
noncomputable def aCV(ta tb:TE):TE:=fun σ H Q=>ta σ H fun x H1=>∃c,x=.bl c/\if c=true then tb σ H1 Q else Q (.bl false) H1
noncomputable def aLU(ta tb:TE):TE:=fun σ H Q=>ta σ H fun x H1=>∃c,x=.bl c/\if c=true then Q (.bl true) H1 else tb σ H1 Q
theorem aFC{op}{t:TE}(h:PE X a t):PE X (.BoolOp op [a] pos) t:=fun pins s σ H Q I hw=>BoolOp_one (h pins s σ H Q I hw)
theorem aE2(ha:PE X a ta)(hb:PE X (.BoolOp .And (b::rest) pos) tb):PE X (.BoolOp .And (a::b::rest) pos) (aCV ta tb):=by
 intro pins s σ H Q I h
 refine BoolOp_and (thn (ha pins s σ H _ I h) fun v s1 ⟨x,H1,I1,r1,q1⟩=>?_)
 obtain⟨c,rfl,q1⟩:=q1
 cases r1
 refine eE ?_
 cases c with
 |true=>exact hb pins s1 σ H1 Q I1 q1
 |false=>exact⟨.bl false,H1,I1,rfl,q1⟩
theorem aJE(ha:PE X a ta)(hb:PE X (.BoolOp .Or (b::rest) pos) tb):PE X (.BoolOp .Or (a::b::rest) pos) (aLU ta tb):=by
 intro pins s σ H Q I h
 refine BoolOp_or (thn (ha pins s σ H _ I h) fun v s1 ⟨x,H1,I1,r1,q1⟩=>?_)
 obtain⟨c,rfl,q1⟩:=q1
 cases r1
 refine eE ?_
 cases c with
 |false=>exact hb pins s1 σ H1 Q I1 q1
 |true=>exact⟨.bl true,H1,I1,rfl,q1⟩
noncomputable def tIf(t:TT)(ta tb:TE):TE:=fun σ H Q=>t σ H fun c H1=>if c=true then ta σ H1 Q else tb σ H1 Q
theorem awT{c:Expr}(hc:PT X c tA)(ha:PE X a ta)(hb:PE X b tb):PE X (.IfExp c a b pos) (tIf tA ta tb):=by
 intro pins s σ H Q I h
 refine wpAny_IfExp (thn (hc pins s σ H _ I h) fun d s1 ⟨H1,I1,q1⟩=>?_)
 cases d with
 |true=>exact ha pins s1 σ H1 Q I1 q1
 |false=>exact hb pins s1 σ H1 Q I1 q1
end
noncomputable def SqL(K:FG)(H:Hp)(a:Addr)(xs:List V):Prop:=
 Rd H a (.lst xs)∨
  ∃(o:Obj) (its:Array Value) (n:Nat),K.lookup a=some o/\o.cls=.type "list"/\o.dict=none/\o.data=.seq its n/\its.size<=sizeLine/\Vals xs its.toList
noncomputable def SqT(K:FG)(H:Hp)(a:Addr)(xs:List V):Prop:=
 Rd H a (.tup xs)∨
  ∃(o:Obj) (its:Array Value) (n:Nat),K.lookup a=some o/\o.cls=.type "tuple"/\o.data=.seq its n/\its.size<=sizeLine/\Vals xs its.toList
noncomputable def absV:Value->Option V
 |.none=>some .non
 |.bool b=>some (.bl b)
 |.int i _=>some (.int i)
 |.str x _=>some (.str x)
 |.bytes b _=>some (.byt b)
 |.float b _=>some (.flt b)
 |.ref a=>some (.ref a)
 |.type n=>some (.ty n)
 |_=>none
theorem RelV.abs{x:V}{u:Value}(r:RelV x u):absV u=some x:=by
 cases x with
 |non=>cases r;rfl
 |bl _=>cases r;rfl
 |int _=>obtain⟨t,rfl⟩:=r;rfl
 |str _=>obtain⟨t,rfl⟩:=r;rfl
 |byt _=>obtain⟨t,rfl⟩:=r;rfl
 |flt _=>obtain⟨t,rfl⟩:=r;rfl
 |ref _=>cases r;rfl
 |ty _=>cases r;rfl
theorem RelV.inj{x y:V}{u:Value}(r:RelV x u)(q:RelV y u):x=y:=bA (r.abs.symm.trans q.abs)
theorem Vals.inj:∀{xs ys:List V} {us:List Value},Vals xs us->Vals ys us->xs=ys
 |_,_,_,.nil,.nil=>rfl
 |_,_,_,.cons r t,.cons r' t'=>by rw[r.inj r',Vals.inj t t']
section
variable{X:Cx}{pins:List (Addr×Obj)}{σ:St}{H:Hp}{s:Shared}{a:Addr}{xs ys:List V}
theorem SqL.of{K:FG}(h:H a=some (.lst xs)):SqL K H a xs:=.inl (.inl h)
theorem SqT.of{K:FG}(h:H a=some (.tup xs)):SqT K H a xs:=.inl (.inl h)
theorem Inv.list(I:Inv X pins σ H s)(h:SqL X.K H a xs):∃its:List Value,Vals xs its/\PlainL s.heap a its.toArray/\xs.length<=sizeLine:=by
 rcases h with h | ⟨o,its,n,hk,hc,hd,hs,hz,r⟩
 ·obtain⟨z,its,n,r,e⟩:=h.ok I.hok
  exact⟨its,r,⟨_,n,e,rfl,rfl,rfl⟩,z⟩
 ·refine⟨its.toList,r,⟨o,n,I.kIn a o hk,hc,hd,by simpa using hs⟩,?_⟩
  have e:=r.length
  simp only[dC] at e
  omega
theorem Inv.tuple(I:Inv X pins σ H s)(h:SqT X.K H a xs):∃its:List Value,Vals xs its/\IsTup s.heap a its.toArray/\xs.length<=sizeLine:=by
 rcases h with h | ⟨o,its,n,hk,hc,hs,hz,r⟩
 ·obtain⟨z,its,r,p⟩:=h.ok I.hok
  exact⟨its,r,p,z⟩
 ·refine⟨its.toList,r,⟨o,I.kIn a o hk,hc,n,by simpa using hs⟩,?_⟩
  have e:=r.length
  simp only[dC] at e
  omega
theorem Inv.list_inj(I:Inv X pins σ H s)(h:SqL X.K H a xs)(h':SqL X.K H a ys):xs=ys:=by
 obtain⟨its,r,⟨o,n,e,_,_,d⟩,_⟩:=I.list h
 obtain⟨its',r',⟨o',n',e',_,_,d'⟩,_⟩:=I.list h'
 rw[e] at e';cases e'
 rw[d] at d'
 injection d' with d1 _
 have:its=its':=by simpa using congrArg Array.toList d1
 subst this
 exact r.inj r'
theorem Inv.tuple_inj(I:Inv X pins σ H s)(h:SqT X.K H a xs)(h':SqT X.K H a ys):xs=ys:=by
 obtain⟨its,r,⟨o,e,_,n,d⟩,_⟩:=I.tuple h
 obtain⟨its',r',⟨o',e',_,n',d'⟩,_⟩:=I.tuple h'
 rw[e] at e';cases e'
 rw[d] at d'
 injection d' with d1 _
 have:its=its':=by simpa using congrArg Array.toList d1
 subst this
 exact r.inj r'
end
noncomputable abbrev Cx.wish(X:Cx)(E:Value->Shared->Prop):Cx:={X with xe:=E}
noncomputable abbrev Cx.nox(X:Cx):Cx:=X.wish fun _ _=>False
theorem Cx.Ok.wish{X:Cx}(ok:X.Ok)(E:Value->Shared->Prop):(X.wish E).Ok:=
 ⟨ok.mod,ok.kind,ok.glob,ok.blt,ok.above,ok.inj,ok.has,ok.cab,ok.hd,ok.frames,ok.stk,ok.exf,ok.bs,ok.bsz,ok.noex,ok.exfs,ok.funs,ok.frf⟩
theorem Cx.Ok.unwish{X:Cx}{E:Value->Shared->Prop}(ok:(X.wish E).Ok):X.Ok:=
 ⟨ok.mod,ok.kind,ok.glob,ok.blt,ok.above,ok.inj,ok.has,ok.cab,ok.hd,ok.frames,ok.stk,ok.exf,ok.bs,ok.bsz,ok.noex,ok.exfs,ok.funs,ok.frf⟩
section
variable{X:Cx}{pins:List (Addr×Obj)}{σ:St}{H:Hp}{s:Shared}{E:Value->Shared->Prop}
theorem Inv.wish(I:Inv X pins σ H s)(E:Value->Shared->Prop):Inv (X.wish E) pins σ H s:=⟨I.ok.wish E,I.os,I.bare,I.base,I.loc,I.cell,I.free,I.freeC,I.pin,I.hok,I.len⟩
theorem Inv.unwish(I:Inv (X.wish E) pins σ H s):Inv X pins σ H s:=⟨I.ok.unwish,I.os,I.bare,I.base,I.loc,I.cell,I.free,I.freeC,I.pin,I.hok,I.len⟩
theorem SP.unwish{D:Ends}{f:Flow}{s':Shared}(h:SP (X.wish E) pins D f s'):SP X pins D f s':=by
 cases f with
 |next=>obtain⟨σ',H',I,q⟩:=h;exact⟨σ',H',I.unwish,q⟩
 |brk=>obtain⟨σ',H',I,q⟩:=h;exact⟨σ',H',I.unwish,q⟩
 |cont=>obtain⟨σ',H',I,q⟩:=h;exact⟨σ',H',I.unwish,q⟩
 |ret u=>obtain⟨v,σ',H',I,r,q⟩:=h;exact⟨v,σ',H',I.unwish,r,q⟩
theorem PSs.nox{st:List Stmt}{t:TS}(h:PSs X.nox st t):PSs X st t:=fun pins s σ H D I hw=>
 dX (h pins s σ H D (I.wish _) hw) (fun _ _ q=>q.unwish) fun _ _ z=>False.elim z
end
section
variable{X:Cx}{st:Stmt}{rest:List Stmt}{t u:TS}{e:Expr}{te:TE}{pos:Pos}
noncomputable def aCD:TS:=fun D σ H=>D.nx σ H
noncomputable def aHZ(t u:TS):TS:=fun D σ H=>t {D with nx:=u D} σ H
theorem az2:PSs X [] aCD:=fun _ _ σ H _ I h=>wpAny_execs_nil ⟨σ,H,I,h⟩
theorem ayX(h1:PS X st t)(h2:PSs X rest u):PSs X (st::rest) (aHZ t u):=by
 intro pins s σ H D I h
 refine wpAny_execs_cons (thn (h1 pins s σ H {D with nx:=u D} I h) fun f s1 q=>?_)
 cases f with
 |next=>
  obtain⟨σ',H',I',q⟩:=q
  exact h2 pins s1 σ' H' D I' q
 |ret v=>exact q
 |brk=>exact q
 |cont=>exact q
theorem az8(h1:PS X st t):PSs X [st] t:=by
 intro pins s σ H D I h
 refine wpAny_execs_cons (thn (h1 pins s σ H D I h) fun f s1 q=>?_)
 cases f with
 |next=>exact wpAny_execs_nil q
 |ret v=>exact q
 |brk=>exact q
 |cont=>exact q
theorem Inv.quiet{pins:List (Addr×Obj)}{σ:St}{H:Hp}{s:Shared}(I:Inv X pins σ H s):interactive X.env=false:=by simp[interactive,I.ok.kind]
noncomputable def aCS(te:TE):TS:=fun D σ H=>te σ H fun _ H1=>D.nx σ H1
theorem aAD(he:PE X e te)(hs:swapsWith e none pos.line X.env=pure false:=by rfl):PS X (.Expr e pos) (aCS te):=by
 intro pins s σ H D I h
 exact wpAny_Expr_any (thn (he pins s σ H _ I h) fun v s1 ⟨x,H1,I1,r1,q1⟩=>⟨σ,H1,I1,q1⟩) I.quiet hs
noncomputable def aOO(te:TE):TS:=fun D σ H=>te σ H D.rt
theorem aDA(he:PE X e te):PS X (.Return (some e) pos) (aOO te):=by
 intro pins s σ H D I h
 exact wpAny_Return_some (thn (he pins s σ H _ I h) fun v s1 ⟨x,H1,I1,r1,q1⟩=>⟨x,σ,H1,I1,r1,q1⟩)
noncomputable def aJY(c:TT)(t u:TS):TS:=fun D σ H=>c σ H fun b H1=>if b=true then t D σ H1 else u D σ H1
theorem aGI{c:Expr}{a b:List Stmt}{tc:TT}(hc:PT X c tc)(ha:PSs X a t)(hb:PSs X b u):PS X (.If c a b pos) (aJY tc t u):=by
 intro pins s σ H D I h
 refine wpAny_If (thn (hc pins s σ H _ I h) fun d s1 ⟨H1,I1,q1⟩=>?_)
 cases d with
 |true=>exact ha pins s1 σ H1 D I1 q1
 |false=>exact hb pins s1 σ H1 D I1 q1
noncomputable def axI:TS:=fun _ _ _=>False
theorem ax1:PS X st axI:=fun _ _ _ _ _ _ h=>h.elim
end
noncomputable abbrev TG:=V->St->Hp->(St->Hp->Prop)->Prop
noncomputable abbrev TGs:=List V->St->Hp->(St->Hp->Prop)->Prop
noncomputable def PG(X:Cx)(target:Expr)(t:TG):Prop:=
 ∀(pins:List (Addr×Obj)) (s:Shared) (σ:St) (H:Hp) (v:V) (u:Value) (Q:St->Hp->Prop),Inv X pins σ H s->RelV v u->t v σ H Q->
  wpAny (model X.prog X.w) X.A (assign target X.env u) (fun _ s'=>∃σ' H',Inv X pins σ' H' s'/\Q σ' H') X.xe s
noncomputable def PGs(X:Cx)(ts:List Expr)(t:TGs):Prop:=
 ∀(pins:List (Addr×Obj)) (s:Shared) (σ:St) (H:Hp) (vs:List V) (us:List Value) (Q:St->Hp->Prop),Inv X pins σ H s->Vals vs us->t vs σ H Q->
  wpAny (model X.prog X.w) X.A (assignInOrder ((assignEach ts X.env).map (·.2)) us) (fun _ s'=>∃σ' H',Inv X pins σ' H' s'/\Q σ' H') X.xe s
noncomputable abbrev aDU:=V->V->V->Hp->(Hp->Prop)->Prop
noncomputable def aN5(X:Cx)(t:aDU):Prop:=
 ∀(pins:List (Addr×Obj)) (s:Shared) (σ:St) (H:Hp) (o i v:V) (ov iv u:Value) (Q:Hp->Prop),Inv X pins σ H s->RelV o ov->RelV i iv->RelV v u->t o i v H Q->
  wpAny (model X.prog X.w) X.A (setItem ov iv u) (fun _ s'=>∃H',Inv X pins σ H' s'/\Q H') X.xe s
section
variable{X:Cx}{pos:Pos}
noncomputable def ad5(i:Nat):TG:=fun v σ H Q=>Q (σ.set i (some v)) H
theorem az7{i:Nat}{x:Str}(hN:X.N.Nodup)(hi:X.N[i]? =some x)(hx:Loc X.env.scope x)(hf:X.fn x=true∨X.env.scope.names.lookup x=some .local:=by first | exact .inl rfl | exact .inr rfl | assumption):PG X (.Name x pos) (ad5 i):=by
 intro pins s σ H v u Q I r h
 exact wpAny_assign_Name (alH I hN hi hx r (fun s' I'=>⟨_,H,I',h⟩) hf)
noncomputable def aAB:TGs:=fun vs σ H Q=>vs=[]/\Q σ H
noncomputable def aoE(t:TG)(u:TGs):TGs:=fun vs σ H Q=>∃v r,vs=v::r/\t v σ H fun σ' H'=>u r σ' H' Q
theorem aBA:PGs X [] aAB:=by
 intro pins s σ H vs us Q I r h
 obtain⟨e,h⟩:=h
 subst e
 cases r
 exact assignInOrder_nil ⟨σ,H,I,h⟩
theorem axF{e:Expr}{es:List Expr}{t:TG}{u:TGs}(h1:PG X e t)(h2:PGs X es u)
  (hs:(assignEach (e::es) X.env).map (·.2)=assign e X.env::(assignEach es X.env).map (·.2):=by rfl):PGs X (e::es) (aoE t u):=by
 intro pins s σ H vs us Q I r h
 obtain⟨v,vr,e1,h⟩:=h
 subst e1
 cases r with
 |cons r rr=>
  rw[hs]
  refine assignInOrder_cons (thn (h1 pins s σ H _ _ _ I r h) fun _ s1 ⟨σ1,H1,I1,q1⟩=>?_)
  exact h2 pins s1 σ1 H1 _ _ Q I1 rr q1
noncomputable def ayR(K:FG)(n:Nat)(t:TGs):TG:=fun v σ H Q=>∃a xs,v=.ref a/\SqT K H a xs/\xs.length=n/\t xs σ H Q
theorem aC7{es:List Expr}{k:Nat}{t:TGs}{n:Nat}(hc:X.calm=true)(h:PGs X es t)
  (hn:(assignEach es X.env).length=n:=by rfl) (hst:(assignEach es X.env).findIdx? (·.1)=none:=by rfl):PG X (.Tuple es k pos) (ayR X.K n t):=by
 intro pins s σ H v u Q I r hw
 obtain⟨a,xs,e1,hq,hl,hw⟩:=hw
 subst e1
 cases r
 obtain⟨its,rv,ht,hz⟩:=I.tuple hq
 refine assign_Tuple_tuple (I.ok.hd hc) ht (by simp[hn,←hl,rv.length]) hst fun h' hx=>?_
 have I1:Inv X pins σ H {s with heap:=h'}:=I.kept (t':=s.toks) fun b o e=>hx b o (bD (aY e)) e
 exact h pins _ σ H xs _ Q I1 (by simpa using rv) hw
noncomputable def aO8(to ti:TE)(t:aDU):TG:=fun v σ H Q=>to σ H fun o H1=>ti σ H1 fun i H2=>t o i v H2 fun H3=>Q σ H3
theorem aDV{o i:Expr}{to ti:TE}{t:aDU}(ho:PE X o to)(hi:PE X i ti)(hs:aN5 X t)
  (ha:∀v,assign (.Subscript o i pos) X.env v=(do
   let ov ←holding [v] (eval o X.env)
   let iv ←holding [v,ov] (eval i X.env)
   standAt pos
   holding [v,ov,iv] (setItem ov iv v)
   release [v,ov,iv] []):=by intro _;rfl):PG X (.Subscript o i pos) (aO8 to ti t):=by
 intro pins s σ H v u Q I r h
 rw[ha]
 refine dW (dZ (thn (ho pins s σ H _ I h) fun ov s1 ⟨x,H1,I1,r1,q1⟩=>?_))
 refine dW (dZ (thn (hi pins s1 σ H1 _ I1 q1) fun iv s2 ⟨y,H2,I2,r2,q2⟩=>?_))
 refine dW (dR (dW (dZ (thn (hs pins s2 σ H2 x y v ov iv u _ I2 r1 r2 r q2) fun _ s3 ⟨H3,I3,q3⟩=>?_))))
 exact wpAny_release ⟨σ,H3,I3,q3⟩
noncomputable def awD(te:TE)(g:TG):TS:=fun D σ H=>te σ H fun x H1=>g x σ H1 D.nx
theorem aD0{tg e:Expr}{te:TE}{g:TG}(he:PE X e te)(hg:PG X tg g)(hs:swapsWithSole [tg] e pos.line X.env=pure false:=by rfl)(hw:swappedStores [tg] e X.env=pure none:=by rfl)
  (h1:(assignEach [tg] X.env).map (·.2)=[assign tg X.env]:=by rfl):PS X (.Assign [tg] e pos) (awD te g):=by
 intro pins s σ H D I h
 refine wpAny_Assign_stores (thn (he pins s σ H _ I h) fun v s1 ⟨x,H1,I1,r1,q1⟩=>?_) hs hw
 rw[h1]
 exact thn (hg pins s1 σ H1 x v _ I1 r1 q1) fun _ s2 q=>q
theorem aD4{i:Nat}{x:Str}{e:Expr}{te:TE}{pos':Pos}(hN:X.N.Nodup)(hi:X.N[i]? =some x)(hx:Loc X.env.scope x)(he:PE X e te)(hs:swapsWith e (some (.Name x pos')) pos.line X.env=pure false:=by rfl)(hf:X.fn x=true∨X.env.scope.names.lookup x=some .local:=by first | exact .inl rfl | exact .inr rfl | assumption):
  PS X (.Assign [.Name x pos'] e pos) (awD te (ad5 i)):=by
 intro pins s σ H D I h
 refine wpAny_Assign_Name (thn (he pins s σ H _ I h) fun v s1 ⟨y,H1,I1,r1,q1⟩=>?_) hs
 exact alH I1 hN hi hx r1 (fun s2 I2=>⟨_,H1,I2,q1⟩) hf
end
section
variable{X:Cx}{pos:Pos}
end
structure It where
 go:Nat->Hp->Prop
 yld:Nat->Hp->V->Hp->Prop
 stop:Nat->Hp->Prop
noncomputable def adR(X:Cx)(pins:List (Addr×Obj))(H:Hp)(b:Addr):Prop:=
 H b=none/\b≠X.env.locals/\b∉X.fs/\(b∈X.ex∨X.s₀.heap.objs.size<=b)/\(∀x c,X.env.cells.lookup x=some c->c≠b)/\∀p∈X.pn++pins,p.1≠b
theorem Inv.fpOk{X:Cx}{pins:List (Addr×Obj)}{σ:St}{H H':Hp}{s:Shared}{b:Addr}(I:Inv X pins σ H s)(hb:s.heap.objs.size<=b)(hn:H' b=none):adR X pins H' b:=by
 refine⟨hn,cF (a9 I.lt hb),I.nofs hb,.inr (bT I.sz hb),fun x c e z=>?_,fun p hp z=>?_⟩
 ·obtain⟨v,q⟩:=I.cell x c e
  exact absurd (a9 q.lt (by rw[z];exact hb)) (cA _)
 ·exact absurd (a9 (aY (I.pin p hp).1) (by rw[z];exact hb)) (cA _)
structure Turn(P:Program)(w:World)(K:FG)(tg:Expr)(J:It)(fp:List Addr)(it:Addr)(tn:Nat->Heap->Prop):Prop where
 mem:it∈fp
 obj:∀i h,tn i h->∀b∈fp,∃o,h.get? b=some o/\∀v,o.data≠ .cell v
 keep:∀i h h',tn i h->(∀b∈fp,∀o,h.get? b=some o->h'.get? b=some o)->tn i h'
 item:∀(X:Cx),X.prog=P->X.w=w->X.K=K->X.calm=true->∀(i:Nat) (pins:List (Addr×Obj)) (s:Shared) (σ:St) (H:Hp) (E:Value->Shared->Prop),Inv X pins σ H s->(∀b∈fp,adR X pins H b)->tn i s.heap->J.go i H->
  wpAny (model P w) X.A (pyNext (.ref it)) (fun r s1=>∃u,r=some u/\
   wpAny (model P w) X.A (letOwnedTupleGo tg (.ref it) u) (fun _ s2=>∃x H',Inv X pins σ H' s2/\RelV x u/\J.yld i H x H'/\tn (i+1) s2.heap/\∀b∈fp,H' b=none) E s1) E s
 done:∀(X:Cx),X.prog=P->X.w=w->X.K=K->X.calm=true->∀(i:Nat) (pins:List (Addr×Obj)) (s:Shared) (σ:St) (H:Hp) (E:Value->Shared->Prop),Inv X pins σ H s->(∀b∈fp,adR X pins H b)->tn i s.heap->J.stop i H->
  wpAny (model P w) X.A (pyNext (.ref it)) (fun r s1=>r=none/\Inv X pins σ H s1) E s
 self:∀(A:Around) (i:Nat) (s:Shared) (Q:Value->Shared->Prop) (E:Value->Shared->Prop),tn i s.heap->Q (.ref it) s->wpAny (model P w) A (pyIter (.ref it)) Q E s
noncomputable abbrev TI:=St->Hp->(It->Hp->Prop)->Prop
noncomputable def PIE(X:Cx)(pins:List (Addr×Obj))(σ:St)(tg:Expr)(R:It->Hp->Prop)(itv:Value)(s2:Shared):Prop:=
 ∃(it:Addr) (fp:List Addr) (tn:Nat->Heap->Prop) (J:It) (H':Hp),itv=.ref it/\Inv X pins σ H' s2/\Turn X.prog X.w X.K tg J fp it tn/\tn 0 s2.heap/\(∀b∈fp,adR X pins H' b)/\R J H'
noncomputable def PI(X:Cx)(tg iter:Expr)(wi:TI):Prop:=
 ∀(pins:List (Addr×Obj)) (s:Shared) (σ:St) (H:Hp) (R:It->Hp->Prop),Inv X pins σ H s->wi σ H R->
  wpAny (model X.prog X.w) X.A (eval iter X.env) (fun v s1=>wpAny (model X.prog X.w) X.A (pyIter v) (PIE X pins σ tg R) X.xe s1) X.xe s
theorem arH{M:Model}{A:Around}{E:Value->Shared->Prop}{s:Shared}{tg:Expr}{it:Addr}{u:Value}{o:Obj}{n:String}{vs:Array Value}{Q:Unit->Shared->Prop}(ho:s.heap.get? it=some o)(hc:o.cls=.type n)(hd:o.data=.fields vs)
  (hn:["enumerate","zip","dict_itemiterator","dict_reverseitemiterator","odict_iterator","itertools.zip_longest","itertools.pairwise"].contains n=false) (hQ:Q () s):wpAny M A (letOwnedTupleGo tg (.ref it) u) Q E s:=by
 unfold letOwnedTupleGo
 cases tg<;>first
  |exact eC hQ
  |(cases u<;>first
    |exact eC hQ
    |(refine dW (wpAny_load ho ?_)
      rw[hc,hd]
      show wpAny M A (if (["enumerate","zip","dict_itemiterator","dict_reverseitemiterator","odict_iterator","itertools.zip_longest","itertools.pairwise"].contains n&&vs[0]? ==some (rawInt _))=true then _ else _) Q E s
      rw[if_neg (by intro h;rw[hn,Bool.false_and] at h;cases h)]
      exact eC hQ))
noncomputable def Itl(K:FG)(a:Addr):It:=
 ⟨fun i H=>∃xs x,SqL K H a xs/\xs[i]? =some x,fun i H x H'=>H'=H/\∀xs,SqL K H a xs->xs[i]? =some x,fun i H=>∃xs,SqL K H a xs/\xs.length<=i⟩
noncomputable def Itt(K:FG)(a:Addr):It:=
 ⟨fun i H=>∃xs x,SqT K H a xs/\xs[i]? =some x,fun i H x H'=>H'=H/\∀xs,SqT K H a xs->xs[i]? =some x,fun i H=>∃xs,SqT K H a xs/\xs.length<=i⟩
noncomputable def Itr(lo:Int)(n:Nat):It:=⟨fun i _=>i<n,fun i H x H'=>H'=H/\x=.int (lo+i),fun i _=>n<=i⟩
theorem av6{P:Program}{w:World}{K:FG}{tg:Expr}(a it:Addr):Turn P w K tg (Itl K a) [it] it (fun i h=>h.IsListIter it a i) where
 mem:=by simp
 obj:=fun i h st b hb=>by
  have e:b=it:=by simpa using hb
  subst e
  obtain⟨o,e,c,d⟩:=st
  exact⟨o,e,fun v z=>by rw[d] at z;cases z⟩
 keep:=fun i h h' st k=>st.at fun o e=>k it (by simp) o e
 item:=by
  intro X hP hw hK hc i pins s σ H E I hf st hg
  subst hP hw hK
  obtain⟨xs,x,hq,hx⟩:=hg
  obtain⟨its,rv,p,hz⟩:=I.list hq
  obtain⟨u,hu,ru⟩:=rv.get hx
  obtain⟨f0,f1,f2,f3,f4,f5⟩:=hf it (by simp)
  refine wpAny_pyNext_list_item st p.isList (x:=u) (by simpa using hu) fun h' st' sb=>?_
  have I1:Inv X pins σ H {s with heap:=h'}:=I.turned (t':=s.toks) (fun b o hb e=>(sb.2 b hb).trans e) f0 f1 f3 f4 f5
  obtain⟨o,e,c,d⟩:=id st'
  exact⟨u,rfl,arH (s:={s with heap:=h'}) e c d (by decide) ⟨x,H,I1,ru,⟨rfl,fun ys hy=>by rw[I.list_inj hy hq];exact hx⟩,st',fun b hb=>(hf b hb).1⟩⟩
 done:=by
  intro X hP hw hK hc i pins s σ H E I hf st hg
  subst hP hw hK
  obtain⟨xs,hq,hx⟩:=hg
  obtain⟨its,rv,p,hz⟩:=I.list hq
  obtain⟨f0,f1,f2,f3,f4,f5⟩:=hf it (by simp)
  have hl:=rv.length
  exact wpAny_pyNext_list_end (I.ok.hd hc) st p.isList (by simp;omega) fun h' eb=>⟨rfl,I.turned (t':=s.toks) (fun b o hb e=>eb b o hb e) f0 f1 f3 f4 f5⟩
 self:=fun _ _ _ _ _ st h=>wpAny_pyIter_listiter st h
theorem atD{P:Program}{w:World}{K:FG}{tg:Expr}(a it:Addr):Turn P w K tg (Itt K a) [it] it (fun i h=>h.IsTupleIter it a i) where
 mem:=by simp
 obj:=fun i h st b hb=>by
  have e:b=it:=by simpa using hb
  subst e
  obtain⟨o,e,c,d⟩:=st
  exact⟨o,e,fun v z=>by rw[d] at z;cases z⟩
 keep:=fun i h h' st k=>st.at fun o e=>k it (by simp) o e
 item:=by
  intro X hP hw hK hc i pins s σ H E I hf st hg
  subst hP hw hK
  obtain⟨xs,x,hq,hx⟩:=hg
  obtain⟨its,rv,p,hz⟩:=I.tuple hq
  obtain⟨u,hu,ru⟩:=rv.get hx
  obtain⟨f0,f1,f2,f3,f4,f5⟩:=hf it (by simp)
  refine wpAny_pyNext_tuple_item st (show s.heap.IsTuple a its.toArray from p) (x:=u) (by simpa using hu) fun h' st' sb=>?_
  have I1:Inv X pins σ H {s with heap:=h'}:=I.turned (t':=s.toks) (fun b o hb e=>(sb.2 b hb).trans e) f0 f1 f3 f4 f5
  obtain⟨o,e,c,d⟩:=id st'
  exact⟨u,rfl,arH (s:={s with heap:=h'}) e c d (by decide) ⟨x,H,I1,ru,⟨rfl,fun ys hy=>by rw[I.tuple_inj hy hq];exact hx⟩,st',fun b hb=>(hf b hb).1⟩⟩
 done:=by
  intro X hP hw hK hc i pins s σ H E I hf st hg
  subst hP hw hK
  obtain⟨xs,hq,hx⟩:=hg
  obtain⟨its,rv,p,hz⟩:=I.tuple hq
  obtain⟨f0,f1,f2,f3,f4,f5⟩:=hf it (by simp)
  have hl:=rv.length
  exact wpAny_pyNext_tuple_end (I.ok.hd hc) st (show s.heap.IsTuple a its.toArray from p) (by simp;omega) fun h' eb=>⟨rfl,I.turned (t':=s.toks) (fun b o hb e=>eb b o hb e) f0 f1 f3 f4 f5⟩
 self:=fun _ _ _ _ _ st h=>wpAny_pyIter_tupleiter st h
theorem atU{P:Program}{w:World}{K:FG}{tg:Expr}(it:Addr)(lo:Int)(n:Nat):Turn P w K tg (Itr lo n) [it] it (fun i h=>IsRangeIter h it (lo+(i:Nat)*1) ((n:Int)-(i:Nat)) 1) where
 mem:=by simp
 obj:=fun i h st b hb=>by
  have e:b=it:=by simpa using hb
  subst e
  exact⟨_,st,fun v z=>by
   have z':Data.fields _=Data.cell v:=z
   cases z'⟩
 keep:=fun i h h' st k=>k it (by simp) _ st
 item:=by
  intro X hP hw hK hc i pins s σ H E I hf st hg
  subst hP hw hK
  obtain⟨f0,f1,f2,f3,f4,f5⟩:=hf it (by simp)
  have W:=Walks.range (prog:=X.prog) (w:=X.w) (I.ok.hd hc) it lo 1 n
  refine W.item i s _ _ hg st fun v h' tk hv st' kk=>?_
  obtain⟨t,rfl⟩:=hv
  have I1:Inv X pins σ H {s with heap:=h',toks:=tk}:=I.turned (fun b o hb e=>kk b o (by simpa using hb) e) f0 f1 f3 f4 f5
  refine⟨_,rfl,arH (s:={s with heap:=h',toks:=tk}) (n:="range_iterator") st' rfl rfl (by decide) ⟨.int (lo+i),H,I1,⟨t,?_⟩,⟨rfl,rfl⟩,st',fun b hb=>(hf b hb).1⟩⟩
  rw[Int.mul_one]
 done:=by
  intro X hP hw hK hc i pins s σ H E I hf st hg
  subst hP hw hK
  obtain⟨f0,f1,f2,f3,f4,f5⟩:=hf it (by simp)
  exact wpAny_pyNext_range_end (I.ok.hd hc) st (by have:n<=i:=hg;omega) fun h' eb=>⟨rfl,I.turned (t':=s.toks) (fun b o hb e=>eb b o hb e) f0 f1 f3 f4 f5⟩
 self:=fun _ _ _ _ _ st h=>wpAny_pyIter_rangeiter st h
section
variable{X:Cx}{tg:Expr}
noncomputable def aCA(K:FG)(tl:TE):TI:=fun σ H R=>tl σ H fun x H1=>∃a,x=.ref a/\(∃xs,SqL K H1 a xs)/\R (Itl K a) H1
noncomputable def aMD(K:FG)(tl:TE):TI:=fun σ H R=>tl σ H fun x H1=>∃a,x=.ref a/\(∃xs,SqT K H1 a xs)/\R (Itt K a) H1
theorem aBT{l:Expr}{tl:TE}(hl:PE X l tl):PI X tg l (aCA X.K tl):=by
 intro pins s σ H R I h
 refine thn (hl pins s σ H _ I h) fun v s1 ⟨x,H1,I1,r1,q1⟩=>?_
 obtain⟨a,e,⟨xs,hq⟩,q⟩:=q1
 subst e
 cases r1
 obtain⟨its,rv,p,hz⟩:=I1.list hq
 refine wpAny_pyIter_list p.isList ?_
 refine⟨s1.heap.objs.size,[s1.heap.objs.size],_,_,H1,rfl,I1.kept (t':=s1.toks) fun b o e=>bB _ e,av6 a _,⟨_,bL _ rfl,rfl,rfl⟩,fun b hb=>?_,q⟩
 have e:b=s1.heap.objs.size:=by simpa using hb
 subst e
 exact I1.fpOk (aV _) (I1.hok.fresh (aV _))
theorem aEB{l:Expr}{tl:TE}(hl:PE X l tl):PI X tg l (aMD X.K tl):=by
 intro pins s σ H R I h
 refine thn (hl pins s σ H _ I h) fun v s1 ⟨x,H1,I1,r1,q1⟩=>?_
 obtain⟨a,e,⟨xs,hq⟩,q⟩:=q1
 subst e
 cases r1
 obtain⟨its,rv,p,hz⟩:=I1.tuple hq
 refine wpAny_pyIter_tuple (show s1.heap.IsTuple a its.toArray from p) ?_
 refine⟨s1.heap.objs.size,[s1.heap.objs.size],_,_,H1,rfl,I1.kept (t':=s1.toks) fun b o e=>bB _ e,atD a _,⟨_,bL _ rfl,rfl,rfl⟩,fun b hb=>?_,q⟩
 have e:b=s1.heap.objs.size:=by simpa using hb
 subst e
 exact I1.fpOk (aV _) (I1.hok.fresh (aV _))
theorem ar2{pins:List (Addr×Obj)}{σ:St}{H:Hp}{s:Shared}{R:It->Hp->Prop}{E:Value->Shared->Prop}{lo hi:Int}{t u v:Tok}{tk:Nat}(I:Inv X pins σ H s)(h1: -(2^62)<=lo)(h2:lo<2^62)(h3: -(2^62)<=hi)(h4:hi<2^62)
  (q:R (Itr lo (hi-lo).toNat) H):wpAny (model X.prog X.w) X.A (pyIter (.ref s.heap.objs.size)) (PIE X pins σ tg R) E {s with heap:=s.heap.push {cls:=.type "range",data:=.fields #[.int lo t,.int hi u,.int 1 v]},toks:=tk}:=by
 refine wpAny_pyIter_range (IsRange.new ..) (small_one h1 h2 h3 h4) ?_
 have I1:Inv X pins σ H {s with heap:=s.heap.push {cls:=.type "range",data:=.fields #[.int lo t,.int hi u,.int 1 v]},toks:=tk}:=I.kept fun b o e=>bB _ e
 refine⟨(s.heap.push {cls:=.type "range",data:=.fields #[.int lo t,.int hi u,.int 1 v]}).objs.size,[(s.heap.push {cls:=.type "range",data:=.fields #[.int lo t,.int hi u,.int 1 v]}).objs.size],_,_,H,rfl,
  I1.kept (t':=tk) fun b o e=>bB _ e,atU _ lo (hi-lo).toNat,?_,fun b hb=>?_,q⟩
 ·have e1:lo+((0:Nat):Int)*1=lo:=by simp
  have e2:(((hi-lo).toNat:Nat):Int)-((0:Nat):Int)=Builtin.Range.rangeSize lo hi 1:=by rw[rangeSize_one];split<;>omega
  show IsRangeIter _ _ (lo+((0:Nat):Int)*1) ((((hi-lo).toNat:Nat):Int)-((0:Nat):Int)) 1
  rw[e1,e2]
  exact bL _ rfl
 ·have e:b=(s.heap.push {cls:=.type "range",data:=.fields #[.int lo t,.int hi u,.int 1 v]}).objs.size:=by simpa using hb
  subst e
  exact I1.fpOk (aV _) (I1.hok.fresh (aV _))
noncomputable def aB5(ta:TA):TI:=fun σ H R=>ta σ H fun vs H1=>∃j:Int,vs=[.int j]/\ -(2^62)<=j/\j<2^62/\R (Itr 0 j.toNat) H1
noncomputable def aCZ(ta:TA):TI:=fun σ H R=>ta σ H fun vs H1=>∃i j:Int,vs=[.int i,.int j]/\(-(2^62)<=i/\i<2^62/\ -(2^62)<=j/\j<2^62)/\R (Itr i (j-i).toNat) H1
theorem avQ{a:Expr}{ta:TA}{p pos:Pos}(hg:Gl X "range")(hm:X.mg "range"=none)(ha:PA X [a] ta)(hs:starEach [a] X.env=[(false,eval a X.env)]:=by rfl):PI X tg (.Call (.Name "range" p) [a] [] pos) (aB5 ta):=by
 intro pins s σ H R I h
 refine Call_ (aeQ I hg hm boot_range (PyProof.Rows.callWith_type1 (thn (ha pos pins s σ H _ I h) fun us s1 ⟨vs,H1,I1,r1,q1⟩=>?_) hs rfl))
 obtain⟨j,e,q1,q2,q⟩:=q1
 subst e
 cases r1 with
 |cons r rr=>
  cases rr
  obtain⟨t,rfl⟩:=r
  exact call_range_1 (ar2 I1 (by omega) (by omega) q1 q2 (by simpa using q))
theorem awG{a b:Expr}{ta:TA}{p pos:Pos}(hg:Gl X "range")(hm:X.mg "range"=none)(ha:PA X [a,b] ta)(hs:starEach [a,b] X.env=[(false,eval a X.env),(false,eval b X.env)]:=by rfl)(hs2:starEach [b] X.env=[(false,eval b X.env)]:=by rfl):
  PI X tg (.Call (.Name "range" p) [a,b] [] pos) (aCZ ta):=by
 intro pins s σ H R I h
 refine Call_ (aeQ I hg hm boot_range (PyProof.Rows.callWith_type1 (thn (ha pos pins s σ H _ I h) fun us s1 ⟨vs,H1,I1,r1,q1⟩=>?_) (by rw[hs,hs2]) (by rw[hs2];rfl)))
 obtain⟨i,j,e,⟨q1,q2,q3,q4⟩,q⟩:=q1
 subst e
 cases r1 with
 |cons r rr=>
  cases rr with
  |cons r' rr=>
   cases rr
   obtain⟨t,rfl⟩:=r
   obtain⟨t',rfl⟩:=r'
   exact call_range_2 (ar2 I1 q1 q2 q3 q4 q)
noncomputable def aNO(wi:TI)(g:TG)(tb:TS):TS:=fun D σ H=>wi σ H fun J H1=>∃W:Nat->Nat->St->Hp->Prop,(∃m,W 0 m σ H1)/\∀i m σ H,W i m σ H->
 (J.stop i H/\D.nx σ H)∨(J.go i H/\∃N:St->Hp->Prop,(∀σ' H',N σ' H'->∃m',m'<m/\W (i+1) m' σ' H')/\∀x H',J.yld i H x H'->g x σ H' fun σ2 H2=>tb {D with nx:=N,ct:=N,bk:=D.nx} σ2 H2)
noncomputable def agN(fp:List Addr)(h:Heap):List (Addr×Obj):=fp.filterMap fun b=>(h.get? b).map fun o=>(b,o)
theorem acE{fp:List Addr}{h:Heap}{b:Addr}{o:Obj}(hb:b∈fp)(e:h.get? b=some o):(b,o)∈agN fp h:=b7.mpr ⟨b,hb,by rw[e];rfl⟩
theorem awH{fp:List Addr}{h:Heap}{p:Addr×Obj}(hp:p∈agN fp h):p.1∈fp/\h.get? p.1=some p.2:=by
 obtain⟨b,hb,e⟩:=b7.mp hp
 cases q:h.get? b with
 |none=>rw[q] at e;cases e
 |some o=>
  rw[q] at e
  have e':(b,o)=p:=bA e
  subst e'
  exact⟨hb,q⟩
theorem Inv.pinned{pins:List (Addr×Obj)}{σ:St}{H:Hp}{s:Shared}{fp:List Addr}(I:Inv X pins σ H s)(hf:∀b∈fp,adR X pins H b)(ho:∀b∈fp,∃o,s.heap.get? b=some o/\∀v,o.data≠ .cell v):Inv X (pins++agN fp s.heap) σ H s:=
 I.pins_of fun p hp=>(bZ.mp hp).elim (fun z=>I.pin p (bY _ z)) fun z=>by
  obtain⟨hb,e⟩:=awH z
  obtain⟨f0,f1,f2,_⟩:=hf p.1 hb
  obtain⟨o,e',d⟩:=ho p.1 hb
  rw[e] at e';cases e'
  exact⟨e,f0,f1,f2,d⟩
theorem Inv.unpinned{pins pl:List (Addr×Obj)}{σ:St}{H:Hp}{s:Shared}(I:Inv X (pins++pl) σ H s):Inv X pins σ H s:=I.pins_of fun p hp=>I.pin p (bY _ (List.mem_append_left _ hp))
theorem aE5{iter:Expr}{body:List Stmt}{wi:TI}{g:TG}{tb:TS}{pos:Pos}(hp:PassesOwn (model X.prog X.w) X.A X.env X.xe)(hc:X.calm=true)(hi:PI X tg iter wi)(hg:PG X tg g)(hb:PSs X body tb)
  (hs:∀x,foldedSetIterable iter X.env x=pure x:=by intro _;rfl):PS X (.For tg iter body [] pos) (aNO wi g tb):=by
 intro pins s σ H D I h
 refine wpAny_For (thn (hi pins s σ H _ I h) fun v s1 h1=>thn h1 fun itv s2 h2=>?_) hs
 obtain⟨it,fp,tn,J,H2,e,I2,T,st2,f2,W,⟨m0,w0⟩,turn⟩:=h2
 subst e
 -- what stays true of the iterator's objects through the loop
 have stat:∀{H':Hp},(∀b∈fp,H' b=none)->∀b∈fp,adR X pins H' b:=fun hn b hb=>⟨hn b hb,(f2 b hb).2⟩
 refine codeAny_forLoop_any (fun n s'=>∃i σ' H',Inv X pins σ' H' s'/\tn i s'.heap/\(∀b∈fp,H' b=none)/\W i n σ' H') ?_ m0 ⟨0,σ,H2,I2,st2,fun b hb=>(f2 b hb).1,w0⟩
 rintro n s3 ⟨i,σ3,H3,I3,st3,fr3,w3⟩
 rcases turn i n σ3 H3 w3 with ⟨stop,qn⟩ | ⟨go,N,hN,step⟩
 ·refine wpAny_passesOwn hp (thn (T.done X rfl rfl rfl hc i pins s3 σ3 H3 X.xe I3 (stat fr3) st3 stop) fun r s4 ⟨hr,I4⟩=>?_)
  subst hr
  exact wpAny_execs_nil ⟨σ3,H3,I4,qn⟩
 ·refine wpAny_passesOwn hp (thn (T.item X rfl rfl rfl hc i pins s3 σ3 H3 X.xe I3 (stat fr3) st3 go) fun r s4 ⟨u,hr,h4⟩=>?_)
  subst hr
  refine wpAny_passesOwn hp (thn h4 fun _ s5 ⟨x,H5,I5,r5,y5,st5,fr5⟩=>?_)
  have I5':=I5.pinned (stat fr5) (T.obj _ _ st5)
  refine wpAny_passesOwn hp (thn (hg _ s5 σ3 H5 x u _ I5' r5 (step x H5 y5)) fun _ s6 ⟨σ6,H6,I6,q6⟩=>?_)
  refine wpAny_passesOwn hp (thn (hb _ s6 σ6 H6 _ I6 q6) fun f s7 q7=>?_)
  have again:∀{σ7:St} {H7:Hp},Inv X (pins++agN fp s5.heap) σ7 H7 s7->N σ7 H7->∃m,m<n/\∃i σ' H',Inv X pins σ' H' s7/\tn i s7.heap/\(∀b∈fp,H' b=none)/\W i m σ' H':=fun {σ7 H7} I7 n7=>by
   obtain⟨m',hm,w7⟩:=hN σ7 H7 n7
   refine⟨m',hm,i+1,σ7,H7,I7.unpinned,T.keep _ _ _ st5 fun b hb o e=>(I7.pin (b,o) (bY _ (bY _ (acE hb e)))).1,fun b hb=>?_,w7⟩
   obtain⟨o,e,d⟩:=T.obj _ _ st5 b hb
   exact (I7.pin (b,o) (bY _ (bY _ (acE hb e)))).2.1
  cases f with
  |next=>obtain⟨σ7,H7,I7,n7⟩:=q7;exact again I7 n7
  |cont=>obtain⟨σ7,H7,I7,n7⟩:=q7;exact again I7 n7
  |brk=>obtain⟨σ7,H7,I7,q7⟩:=q7;exact⟨σ7,H7,I7.unpinned,q7⟩
  |ret v=>obtain⟨x7,σ7,H7,I7,r7,q7⟩:=q7;exact⟨x7,σ7,H7,I7.unpinned,r7,q7⟩
end
theorem aeV{K:FG}{a:Addr}{xs:List V}{g:TG}{tb:TS}{D:Ends}{σ:St}{H:Hp}(Pv:Nat->St->Hp->Prop)(h0:Pv 0 σ H)(hl:∀i σ H,i<=xs.length->Pv i σ H->SqL K H a xs)
  (hs:∀i x σ H,xs[i]? =some x->Pv i σ H->g x σ H fun σ2 H2=>tb {D with nx:=Pv (i+1),ct:=Pv (i+1),bk:=D.nx} σ2 H2) (hd:∀σ H,Pv xs.length σ H->D.nx σ H):
  ∃W:Nat->Nat->St->Hp->Prop,(∃m,W 0 m σ H)/\∀i m σ H,W i m σ H->
   ((Itl K a).stop i H/\D.nx σ H)∨((Itl K a).go i H/\∃N:St->Hp->Prop,(∀σ' H',N σ' H'->∃m',m'<m/\W (i+1) m' σ' H')/\∀x H',(Itl K a).yld i H x H'->g x σ H' fun σ2 H2=>tb {D with nx:=N,ct:=N,bk:=D.nx} σ2 H2):=by
 refine⟨fun i m σ H=>m=xs.length-i/\i<=xs.length/\Pv i σ H,⟨xs.length,by simp,bM _,h0⟩,?_⟩
 rintro i m σ H ⟨rfl,hi,p⟩
 have q:=hl i σ H hi p
 by_cases hlt:i<xs.length
 ·refine .inr ⟨⟨xs,xs[i],q,by simp[hlt]⟩,Pv (i+1),fun σ' H' p'=>⟨xs.length-(i+1),by omega,rfl,hlt,p'⟩,fun x H' y=>?_⟩
  obtain⟨e,y⟩:=y
  subst e
  exact hs i x σ _ (y xs q) p
 ·have e:i=xs.length:=by omega
  subst e
  exact .inl ⟨⟨xs,q,aV _⟩,hd σ H p⟩
theorem ahG{K:FG}{a:Addr}{xs:List V}{g:TG}{tb:TS}{D:Ends}{σ:St}{H:Hp}(Pv:Nat->St->Hp->Prop)(h0:Pv 0 σ H)(hl:∀i σ H,i<=xs.length->Pv i σ H->SqT K H a xs)
  (hs:∀i x σ H,xs[i]? =some x->Pv i σ H->g x σ H fun σ2 H2=>tb {D with nx:=Pv (i+1),ct:=Pv (i+1),bk:=D.nx} σ2 H2) (hd:∀σ H,Pv xs.length σ H->D.nx σ H):
  ∃W:Nat->Nat->St->Hp->Prop,(∃m,W 0 m σ H)/\∀i m σ H,W i m σ H->
   ((Itt K a).stop i H/\D.nx σ H)∨((Itt K a).go i H/\∃N:St->Hp->Prop,(∀σ' H',N σ' H'->∃m',m'<m/\W (i+1) m' σ' H')/\∀x H',(Itt K a).yld i H x H'->g x σ H' fun σ2 H2=>tb {D with nx:=N,ct:=N,bk:=D.nx} σ2 H2):=by
 refine⟨fun i m σ H=>m=xs.length-i/\i<=xs.length/\Pv i σ H,⟨xs.length,by simp,bM _,h0⟩,?_⟩
 rintro i m σ H ⟨rfl,hi,p⟩
 have q:=hl i σ H hi p
 by_cases hlt:i<xs.length
 ·refine .inr ⟨⟨xs,xs[i],q,by simp[hlt]⟩,Pv (i+1),fun σ' H' p'=>⟨xs.length-(i+1),by omega,rfl,hlt,p'⟩,fun x H' y=>?_⟩
  obtain⟨e,y⟩:=y
  subst e
  exact hs i x σ _ (y xs q) p
 ·have e:i=xs.length:=by omega
  subst e
  exact .inl ⟨⟨xs,q,aV _⟩,hd σ H p⟩
theorem an2{lo:Int}{n:Nat}{g:TG}{tb:TS}{D:Ends}{σ:St}{H:Hp}(Pv:Nat->St->Hp->Prop)(h0:Pv 0 σ H)
  (hs:∀i σ H,i<n->Pv i σ H->g (.int (lo+i)) σ H fun σ2 H2=>tb {D with nx:=Pv (i+1),ct:=Pv (i+1),bk:=D.nx} σ2 H2) (hd:∀σ H,Pv n σ H->D.nx σ H):
  ∃W:Nat->Nat->St->Hp->Prop,(∃m,W 0 m σ H)/\∀i m σ H,W i m σ H->
   ((Itr lo n).stop i H/\D.nx σ H)∨((Itr lo n).go i H/\∃N:St->Hp->Prop,(∀σ' H',N σ' H'->∃m',m'<m/\W (i+1) m' σ' H')/\∀x H',(Itr lo n).yld i H x H'->g x σ H' fun σ2 H2=>tb {D with nx:=N,ct:=N,bk:=D.nx} σ2 H2):=by
 refine⟨fun i m σ H=>m=n-i/\i<=n/\Pv i σ H,⟨n,by simp,bM _,h0⟩,?_⟩
 rintro i m σ H ⟨rfl,hi,p⟩
 by_cases hlt:i<n
 ·refine .inr ⟨hlt,Pv (i+1),fun σ' H' p'=>⟨n-(i+1),by omega,rfl,hlt,p'⟩,fun x H' y=>?_⟩
  obtain⟨e,y⟩:=y
  subst e y
  exact hs i σ _ hlt p
 ·have e:i=n:=by omega
  subst e
  exact .inl ⟨aV _,hd σ H p⟩
noncomputable abbrev R2:=V->V->Hp->VK->Prop
noncomputable def OpR(X:Cx)(f:Value->Value->Sem Value)(r:R2):Prop:=
 ∀(pins:List (Addr×Obj)) (s:Shared) (σ:St) (H:Hp) (x y:V) (v u:Value) (Q:VK),Inv X pins σ H s->RelV x v->RelV y u->r x y H Q->
  wpAny (model X.prog X.w) X.A (f v u) (EP X pins σ Q) X.xe s
noncomputable def UnR(X:Cx)(f:Value->Sem Value)(r:V->Hp->VK->Prop):Prop:=
 ∀(pins:List (Addr×Obj)) (s:Shared) (σ:St) (H:Hp) (x:V) (v:Value) (Q:VK),Inv X pins σ H s->RelV x v->r x H Q->
  wpAny (model X.prog X.w) X.A (f v) (EP X pins σ Q) X.xe s
noncomputable def ahO(X:Cx)(f:Value)(r:List V->Hp->VK->Prop):Prop:=
 ∀(pins:List (Addr×Obj)) (s:Shared) (σ:St) (H:Hp) (xs:List V) (us:List Value) (Q:VK),Inv X pins σ H s->Vals xs us->r xs H Q->
  wpAny (model X.prog X.w) X.A (call f us) (EP X pins σ Q) X.xe s
noncomputable def tOp(r:R2)(ta tb:TE):TE:=fun σ H Q=>ta σ H fun x H1=>tb σ H1 fun y H2=>r x y H2 Q
noncomputable def tUn(r:V->Hp->VK->Prop)(ta:TE):TE:=fun σ H Q=>ta σ H fun x H1=>r x H1 Q
noncomputable def rI(C:Int->Int->Prop)(g:Int->Int->V):R2:=fun x y H Q=>∃i j,x=.int i/\y=.int j/\C i j/\Q (g i j) H
noncomputable def rI0(g:Int->Int->V):R2:=fun x y H Q=>∃i j,x=.int i/\y=.int j/\Q (g i j) H
noncomputable def rU(g:Int->V):V->Hp->VK->Prop:=fun x H Q=>∃i,x=.int i/\Q (g i) H
section
variable{X:Cx}{a b c:Expr}{ta tb tc:TE}{pos:Pos}
theorem aD5(ha:PE X a ta)(hb:PE X b tb){pins:List (Addr×Obj)}{s:Shared}{σ:St}{H:Hp}{R:V->V->Hp->Prop}(I:Inv X pins σ H s)
  (h:ta σ H fun x H1=>tb σ H1 fun y H2=>R x y H2) {Q:Value->Shared->Prop} {f:Value->Value->Sem Value}
  (hf:∀v u s2 x y H2,Inv X pins σ H2 s2->RelV x v->RelV y u->R x y H2->wpAny (model X.prog X.w) X.A (f v u) Q X.xe s2):
  wpAny (model X.prog X.w) X.A (eval a X.env) (fun v s₁=>wpAny (model X.prog X.w) X.A (eval b X.env) (fun u s₂=>wpAny (model X.prog X.w) X.A (f v u) Q X.xe s₂) X.xe s₁) X.xe s:=by
 refine thn (ha pins s σ H _ I h) fun v s1 ⟨x,H1,I1,r1,q1⟩=>?_
 refine thn (hb pins s1 σ H1 _ I1 q1) fun u s2 ⟨y,H2,I2,r2,q2⟩=>?_
 exact hf v u s2 x y H2 I2 r1 r2 q2
theorem aKN{op:Operator}{r:R2}(ho:OpR X (binaryOp op) r)(ha:PE X a ta)(hb:PE X b tb):PE X (.BinOp a op b pos) (tOp r ta tb):=by
 intro pins s σ H Q I h
 exact wpAny_BinOp (aD5 ha hb I h fun v u s2 x y H2 I2 rx ry q=>ho pins s2 σ H2 x y v u Q I2 rx ry q)
theorem aND{op:UnaryOp}{r:V->Hp->VK->Prop}(ho:UnR X (unaryOp op) r)(ha:PE X a ta):PE X (.UnaryOp op a pos) (tUn r ta):=by
 intro pins s σ H Q I h
 exact UnaryOp_ (thn (ha pins s σ H _ I h) fun v s1 ⟨x,H1,I1,r1,q1⟩=>ho pins s1 σ H1 x v Q I1 r1 q1)
theorem opI{f:Value->Value->Sem Value}{C:Int->Int->Prop}{g:Int->Int->Int}
  (rule:∀(i j:Int) (t u:Tok) (s:Shared) (Q:Value->Shared->Prop) (E:Value->Shared->Prop),C i j->Q (.int (g i j) s.toks) {s with toks:=s.toks+1}->wpAny (model X.prog X.w) X.A (f (.int i t) (.int j u)) Q E s):
  OpR X f (rI C fun i j=>.int (g i j)):=by
 intro pins s σ H x y v u Q I rx ry h
 obtain⟨i,j,rfl,rfl,hc,q⟩:=h
 obtain⟨t,rfl⟩:=rx
 obtain⟨t',rfl⟩:=ry
 exact rule i j t t' s _ _ hc ⟨.int (g i j),H,I.tok _,⟨_,rfl⟩,q⟩
theorem ay6{f:Value->Value->Sem Value}{g:Int->Int->Int}
  (rule:∀(i j:Int) (t u:Tok) (s:Shared) (Q:Value->Shared->Prop) (E:Value->Shared->Prop),Q (.int (g i j) s.toks) {s with toks:=s.toks+1}->wpAny (model X.prog X.w) X.A (f (.int i t) (.int j u)) Q E s):
  OpR X f (rI0 fun i j=>.int (g i j)):=by
 intro pins s σ H x y v u Q I rx ry h
 obtain⟨i,j,rfl,rfl,q⟩:=h
 obtain⟨t,rfl⟩:=rx
 obtain⟨t',rfl⟩:=ry
 exact rule i j t t' s _ _ ⟨.int (g i j),H,I.tok _,⟨_,rfl⟩,q⟩
theorem aB1{f:Value->Value->Sem Value}{g:Int->Int->Bool}
  (rule:∀(i j:Int) (t u:Tok) (s:Shared) (Q:Value->Shared->Prop) (E:Value->Shared->Prop),Q (.bool (g i j)) s->wpAny (model X.prog X.w) X.A (f (.int i t) (.int j u)) Q E s):
  OpR X f (rI0 fun i j=>.bl (g i j)):=by
 intro pins s σ H x y v u Q I rx ry h
 obtain⟨i,j,rfl,rfl,q⟩:=h
 obtain⟨t,rfl⟩:=rx
 obtain⟨t',rfl⟩:=ry
 exact rule i j t t' s _ _ ⟨.bl (g i j),H,I,rfl,q⟩
noncomputable def aN4(i j:Int):Prop:=0<j/\j<1073741824
noncomputable def aBP(i j:Int):Prop:=0<=j/\j<=1000000/\i.natAbs<2^64
noncomputable def CMul(i j:Int):Prop:=(-(2^64)<i/\i<2^64)∨(-(2^64)<j/\j<2^64)
theorem CMul.ok{i j:Int}(h:CMul i j):IntMulOk i j:=by
 rcases h with ⟨h1,h2⟩ | ⟨h1,h2⟩
 ·exact .of_left (intBits_le_64 h1 h2)
 ·exact .of_right (intBits_le_64 h1 h2)
theorem at6(k:Nat):(0:Int)<=2^k:=by
 rw[two_pow_cast]
 exact cV _
theorem aED:OpR X (binaryOp .Add) (rI0 fun i j=>.int (i+j)):=ay6 fun _ _ _ _ _ _ _ q=>add_int q
theorem aEL:OpR X (binaryOp .Sub) (rI0 fun i j=>.int (i-j)):=ay6 fun _ _ _ _ _ _ _ q=>sub_int q
theorem aEP:OpR X (binaryOp .Mult) (rI CMul fun i j=>.int (i*j)):=opI fun _ _ _ _ _ _ _ hc q=>mul_int q hc.ok
theorem aAR:OpR X (binaryOp .FloorDiv) (rI aN4 fun i j=>.int (i / j)):=opI fun i j _ _ _ _ _ hc q=>by
 have h1:(0:Int)<j:=hc.1
 have h2:j<1073741824:=hc.2
 exact floordiv_int (by omega) (by rw[Int.fdiv_eq_ediv_of_nonneg i (by omega)];exact q) (.inl (PyProof.noPylong_small (by omega)))
theorem aE0:OpR X (binaryOp .Mod) (rI (fun _ j=>0<j) fun i j=>.int (i%j)):=opI fun i j _ _ _ _ _ hc q=>by
 have h1:(0:Int)<j:=hc
 exact mod_int' (by omega) (by rw[Int.fmod_eq_emod_of_nonneg i (by omega)];exact q)
theorem aFN:OpR X (binaryOp .Pow) (rI aBP fun i j=>.int (i^j.toNat)):=opI fun _ _ _ _ _ _ _ hc q=>pow_int_small hc.1 hc.2.1 hc.2.2 q
theorem aDB:OpR X (binaryOp .LShift) (rI aBP fun i j=>.int (i*2^j.toNat)):=opI fun _ _ _ _ _ _ _ hc q=>lshift_int_small hc.1 hc.2.1 hc.2.2 q
theorem aFG:OpR X (binaryOp .RShift) (rI (fun _ j=>0<=j) fun i j=>.int (i / 2^j.toNat)):=opI fun i j _ _ _ _ _ hc q=>
 rshift_int hc (by rw[Int.fdiv_eq_ediv_of_nonneg i (at6 _)];exact q)
theorem aES:OpR X (binaryOp .BitAnd) (rI0 fun i j=>.int (Builtin.bitAnd i j)):=ay6 fun _ _ _ _ _ _ _ q=>and_int q
theorem aF4:OpR X (binaryOp .BitOr) (rI0 fun i j=>.int (Builtin.bitOr i j)):=ay6 fun _ _ _ _ _ _ _ q=>or_int q
theorem aFJ:OpR X (binaryOp .BitXor) (rI0 fun i j=>.int (Builtin.bitXor i j)):=ay6 fun _ _ _ _ _ _ _ q=>xor_int q
theorem unI{f:Value->Sem Value}{g:Int->Int}
  (rule:∀(i:Int) (t:Tok) (s:Shared) (Q:Value->Shared->Prop) (E:Value->Shared->Prop),Q (.int (g i) s.toks) {s with toks:=s.toks+1}->wpAny (model X.prog X.w) X.A (f (.int i t)) Q E s):
  UnR X f (rU fun i=>.int (g i)):=by
 intro pins s σ H x v Q I rx h
 obtain⟨i,rfl,q⟩:=h
 obtain⟨t,rfl⟩:=rx
 exact rule i t s _ _ ⟨.int (g i),H,I.tok _,⟨_,rfl⟩,q⟩
theorem aDM:UnR X (unaryOp .USub) (rU fun i=>.int (-i)):=unI fun _ _ _ _ _ q=>neg_int q
theorem aDQ:UnR X (unaryOp .Invert) (rU fun i=>.int (Builtin.bitNot i)):=unI fun _ _ _ _ _ q=>invert_int q
end
noncomputable def aMS:V->V->Bool
 |.non,.non=>true | .non,.int _=>true | .int _,.non=>true | .non,.bl _=>true | .bl _,.non=>true | .non,.str _=>true | .str _,.non=>true
 |.int _,.int _=>true | .bl _,.bl _=>true | .str _,.str _=>true | .byt _,.byt _=>true
 |.int _,.str _=>true | .str _,.int _=>true | .bl _,.str _=>true | .str _,.bl _=>true
 |_,_=>false
noncomputable def rEq:R2:=fun x y H Q=>aMS x y=true/\Q (.bl (decide (x=y))) H
noncomputable def rNe:R2:=fun x y H Q=>aMS x y=true/\Q (.bl (!decide (x=y))) H
theorem avG{i j:Int}:decide (V.int i=V.int j)=(i==j):=by
 rw[cI]
 simp
theorem ax3{i j:Bool}:decide (V.bl i=V.bl j)=(i==j):=by
 rw[cI]
 simp
theorem auY{i j:Str}:decide (V.str i=V.str j)=(i==j):=by
 rw[cI]
 simp
theorem auT{i j:Array UInt8}:decide (V.byt i=V.byt j)=(i.toList==j.toList):=by
 rw[cI]
 cases i
 cases j
 simp
section
variable{X:Cx}{a b c:Expr}{ta tb tc:TE}{pos:Pos}
theorem aaW{pins:List (Addr×Obj)}{σ:St}{H:Hp}{s:Shared}{Q:VK}{k k':Bool}(I:Inv X pins σ H s)(q:Q (.bl k) H)(e:k=k'):EP X pins σ Q (.bool k') s:=by
 subst e
 exact⟨.bl k,H,I,rfl,q⟩
theorem aH5:OpR X (compareOp .Eq) rEq:=by
 intro pins s σ H x y v u Q I rx ry h
 obtain⟨hs,q⟩:=h
 cases x with
 |non=>
  cases rx
  cases y with
  |non=>cases ry;exact PySem.EqNone.eq_none_none (aaW I q (by simp))
  |bl j=>cases ry;exact PySem.EqNone.eq_none_bool (aaW I q (by simp))
  |int j=>obtain⟨t',rfl⟩:=ry;exact PySem.EqNone.eq_none_int (aaW I q (by simp))
  |str j=>obtain⟨t',rfl⟩:=ry;exact PySem.EqNone.eq_none_str (aaW I q (by simp))
  |_=>exact absurd (show false=true from hs) bC
 |bl i=>
  cases rx
  cases y with
  |non=>cases ry;exact PySem.EqNone.eq_bool_none (aaW I q (by simp))
  |bl j=>cases ry;exact eq_bool (aaW I q ax3)
  |str j=>obtain⟨t',rfl⟩:=ry;exact PySem.EqMixed.eq_bool_str (aaW I q (by simp))
  |_=>exact absurd (show false=true from hs) bC
 |int i=>
  obtain⟨t,rfl⟩:=rx
  cases y with
  |non=>cases ry;exact PySem.EqNone.eq_int_none (aaW I q (by simp))
  |int j=>obtain⟨t',rfl⟩:=ry;exact eq_int (aaW I q avG)
  |str j=>obtain⟨t',rfl⟩:=ry;exact PySem.EqMixed.eq_int_str (aaW I q (by simp))
  |_=>exact absurd (show false=true from hs) bC
 |str i=>
  obtain⟨t,rfl⟩:=rx
  cases y with
  |non=>cases ry;exact PySem.EqNone.eq_str_none (aaW I q (by simp))
  |bl j=>cases ry;exact PySem.EqMixed.eq_str_bool (aaW I q (by simp))
  |int j=>obtain⟨t',rfl⟩:=ry;exact PySem.EqMixed.eq_str_int (aaW I q (by simp))
  |str j=>obtain⟨t',rfl⟩:=ry;exact eq_str (aaW I q auY)
  |_=>exact absurd (show false=true from hs) bC
 |byt i=>
  obtain⟨t,rfl⟩:=rx
  cases y with
  |byt j=>obtain⟨t',rfl⟩:=ry;exact PySem.W.eq_bytes (aaW I q auT)
  |_=>exact absurd (show false=true from hs) bC
 |_=>cases y<;>exact absurd (show false=true from hs) bC
theorem aG0:OpR X (compareOp .NotEq) rNe:=by
 intro pins s σ H x y v u Q I rx ry h
 obtain⟨hs,q⟩:=h
 cases x with
 |non=>
  cases rx
  cases y with
  |non=>cases ry;exact PySem.EqNone.ne_none_none (aaW I q (by simp))
  |bl j=>cases ry;exact PySem.EqNone.ne_none_bool (aaW I q (by simp))
  |int j=>obtain⟨t',rfl⟩:=ry;exact PySem.EqNone.ne_none_int (aaW I q (by simp))
  |str j=>obtain⟨t',rfl⟩:=ry;exact PySem.EqNone.ne_none_str (aaW I q (by simp))
  |_=>exact absurd (show false=true from hs) bC
 |bl i=>
  cases rx
  cases y with
  |non=>cases ry;exact PySem.EqNone.ne_bool_none (aaW I q (by simp))
  |bl j=>cases ry;exact ne_bool (aaW I q (congrArg not ax3))
  |str j=>obtain⟨t',rfl⟩:=ry;exact PySem.EqMixed.ne_bool_str (aaW I q (by simp))
  |_=>exact absurd (show false=true from hs) bC
 |int i=>
  obtain⟨t,rfl⟩:=rx
  cases y with
  |non=>cases ry;exact PySem.EqNone.ne_int_none (aaW I q (by simp))
  |int j=>obtain⟨t',rfl⟩:=ry;exact ne_int (aaW I q (congrArg not avG))
  |str j=>obtain⟨t',rfl⟩:=ry;exact PySem.EqMixed.ne_int_str (aaW I q (by simp))
  |_=>exact absurd (show false=true from hs) bC
 |str i=>
  obtain⟨t,rfl⟩:=rx
  cases y with
  |non=>cases ry;exact PySem.EqNone.ne_str_none (aaW I q (by simp))
  |bl j=>cases ry;exact PySem.EqMixed.ne_str_bool (aaW I q (by simp))
  |int j=>obtain⟨t',rfl⟩:=ry;exact PySem.EqMixed.ne_str_int (aaW I q (by simp))
  |str j=>obtain⟨t',rfl⟩:=ry;exact ne_str (aaW I q (congrArg not auY))
  |_=>exact absurd (show false=true from hs) bC
 |byt i=>
  obtain⟨t,rfl⟩:=rx
  cases y with
  |byt j=>obtain⟨t',rfl⟩:=ry;exact PySem.W.ne_bytes (aaW I q (congrArg not auT))
  |_=>exact absurd (show false=true from hs) bC
 |_=>cases y<;>exact absurd (show false=true from hs) bC
theorem aPL:OpR X (compareOp .Lt) (rI0 fun i j=>.bl (decide (i<j))):=aB1 fun _ _ _ _ _ _ _ q=>lt_int q
theorem aLE:OpR X (compareOp .LtE) (rI0 fun i j=>.bl (decide (i<=j))):=aB1 fun _ _ _ _ _ _ _ q=>le_int q
theorem aJX:OpR X (compareOp .Gt) (rI0 fun i j=>.bl (decide (j<i))):=aB1 fun _ _ _ _ _ _ _ q=>gt_int q
theorem aHD:OpR X (compareOp .GtE) (rI0 fun i j=>.bl (decide (j<=i))):=aB1 fun _ _ _ _ _ _ _ q=>ge_int q
theorem awA:OpR X (compareOp .In) (fun x y H Q=>∃i j,x=.str i/\y=.str j/\Q (.bl (!(Builtin.Str.occurrences j i 0 j.length 1).isEmpty)) H):=by
 intro pins s σ H x y v u Q I rx ry h
 obtain⟨i,j,rfl,rfl,q⟩:=h
 obtain⟨t,rfl⟩:=rx
 obtain⟨t',rfl⟩:=ry
 exact in_str (aaW I q rfl)
theorem aFE:OpR X (compareOp .Is) (fun x y H Q=>y=.non/\Q (.bl (decide (x=.non))) H):=by
 intro pins s σ H x y v u Q I rx ry h
 obtain⟨rfl,q⟩:=h
 cases ry
 refine is_none_gen (aaW I q ?_)
 cases x<;>first
  |(cases rx;rfl)
  |(obtain⟨t,rfl⟩:=rx;rfl)
theorem aBF:OpR X (compareOp .IsNot) (fun x y H Q=>y=.non/\Q (.bl (!decide (x=.non))) H):=by
 intro pins s σ H x y v u Q I rx ry h
 obtain⟨rfl,q⟩:=h
 cases ry
 refine isnot_none_gen (aaW I q ?_)
 cases x<;>first
  |(cases rx;rfl)
  |(obtain⟨t,rfl⟩:=rx;rfl)
theorem ayC(b:Expr){op:CmpOp}(h:op≠ .In:=by decide)(h2:op≠ .NotIn:=by decide):behindInMarks op b=false:=by
 have e1:(op==CmpOp.In)=false:=by cases op<;>first | rfl | exact absurd rfl h
 have e2:(op==CmpOp.NotIn)=false:=by cases op<;>first | rfl | exact absurd rfl h2
 cases b<;>simp[behindInMarks,e1,e2]
theorem aA0{op:CmpOp}{r:R2}(ho:OpR X (compareOp op) r)(ha:PE X a ta)(hb:PE X b tb)(hm:behindInMarks op b=false):PE X (.Compare a [op] [b] pos) (tOp r ta tb):=by
 intro pins s σ H Q I h
 exact wpAny_Compare1 (aD5 ha hb I h fun v u s2 x y H2 I2 rx ry q=>ho pins s2 σ H2 x y v u Q I2 rx ry q) hm
noncomputable def auL(t:TE):TT:=fun σ H Q=>t σ H fun x H'=>∃k,x=.bl k/\Q k H'
theorem aBL{op:CmpOp}{r:R2}(ho:OpR X (compareOp op) r)(ha:PE X a ta)(hb:PE X b tb)(hm:behindInMarks op b=false):PT X (.Compare a [op] [b] pos) (auL (tOp r ta tb)):=by
 intro pins s σ H Q I h
 refine wpAny_isTrue_Compare1 (thn (ha pins s σ H _ I h) fun v s1 ⟨x,H1,I1,r1,q1⟩=>thn (hb pins s1 σ H1 _ I1 q1) fun u s2 ⟨y,H2,I2,r2,q2⟩=>
  thn (ho pins s2 σ H2 x y v u _ I2 r1 r2 q2) fun c s3 ⟨z,H3,I3,r3,k,e,q3⟩=>?_) hm
 subst e
 cases r3
 exact eE ⟨H3,I3,q3⟩
noncomputable def azQ(r r':R2)(ta tb tc:TE):TE:=fun σ H Q=>ta σ H fun x H1=>tb σ H1 fun y H2=>r x y H2 fun z H3=>∃k,z=.bl k/\
 (if k=true then tc σ H3 fun w' H4=>r' y w' H4 Q else Q (.bl false) H3)
theorem azO{op op':CmpOp}{r r':R2}(ho:OpR X (compareOp op) r)(ho':OpR X (compareOp op') r')(ha:PE X a ta)(hb:PE X b tb)(hc:PE X c tc)
  (hm:lastMarks [op,op'] [b,c]=false:=by with_unfolding_all rfl):PT X (.Compare a [op,op'] [b,c] pos) (auL (azQ r r' ta tb tc)):=by
 intro pins s σ H Q I h
 refine isTrue_chain (thn (ha pins s σ H _ I h) fun v s1 ⟨x,H1,I1,r1,q1⟩=>test_link (thn (hb pins s1 σ H1 _ I1 q1) fun u s2 ⟨y,H2,I2,r2,q2⟩=>
  thn (ho pins s2 σ H2 x y v u _ I2 r1 r2 q2) fun d s3 ⟨z,H3,I3,r3,k,e,q3⟩=>?_)) hm
 subst e
 cases r3
 refine eE ?_
 cases k with
 |false=>
  obtain⟨k',e',q'⟩:=q3
  cases e'
  exact ite_ff ⟨H3,I3,q'⟩
 |true=>
  refine ite_tt (test_last (thn (hc pins s3 σ H3 _ I3 q3) fun w' s4 ⟨z',H4,I4,r4,q4⟩=>thn (ho' pins s4 σ H4 y z' u w' _ I4 r2 r4 q4) fun d' s5 ⟨z2,H5,I5,r5,k2,e2,q5⟩=>?_))
  subst e2
  cases r5
  exact eE ⟨H5,I5,q5⟩
theorem ah0:(sizeLine:Nat)<2^63:=by rw[dY];decide
theorem asU:OpR X (binaryOp .Add) (fun x y H Q=>∃i j,x=.str i/\y=.str j/\i.length+j.length<=sizeLine/\Q (.str (i++j)) H):=by
 intro pins s σ H x y v u Q I rx ry h
 obtain⟨i,j,rfl,rfl,hz,q⟩:=h
 obtain⟨t,rfl⟩:=rx
 obtain⟨t',rfl⟩:=ry
 exact add_str (fun t' tk=>⟨.str (i++j),H,I.tok _,⟨_,rfl⟩,q⟩) hz
theorem acK{x:V}{us:List Value}(r:Vals [x] us):∃u,us=[u]/\RelV x u:=by
 cases r with
 |cons r1 r2=>cases r2;exact⟨_,rfl,r1⟩
theorem aw5{x y:V}{us:List Value}(r:Vals [x,y] us):∃u w',us=[u,w']/\RelV x u/\RelV y w':=by
 cases r with
 |cons r1 r2=>
  cases r2 with
  |cons r3 r4=>cases r4;exact⟨_,_,rfl,r1,r3⟩
theorem azK:ahO X (.builtin "abs") (fun xs H Q=>∃i,xs=[.int i]/\Q (.int (if i<0 then -i else i)) H):=by
 intro pins s σ H xs us Q I r h
 obtain⟨i,rfl,q⟩:=h
 obtain⟨u,rfl,t,rfl⟩:=acK r
 exact call_abs_int fun u tk=>⟨.int (if i<0 then -i else i),H,I.tok _,⟨_,rfl⟩,q⟩
theorem ao6:ahO X (.type "str") (fun xs H Q=>∃i,xs=[.int i]/\i.natAbs.log2<1920/\Q (.str (toString i)) H):=by
 intro pins s σ H xs us Q I r h
 obtain⟨i,rfl,hz,q⟩:=h
 obtain⟨u,rfl,t,rfl⟩:=acK r
 exact PySem.P.str_of_int hz ⟨.str _,H,I.tok _,⟨_,rfl⟩,q⟩
end
structure ObjM(h:Heap)(x dx C:Addr)(mA:Str->Option Value):Prop where
 obj:h.get? x=some (PySem.W.instObj C dx)
 ns:h.Ns1 dx mA
 ne:dx≠x
theorem awB{h:Heap}{dx:Addr}{mA:Str->Option Value}(n:h.Ns1 dx mA):∃od,h.get? dx=some od/\∀name,PySem.W.lookIn name od=some (mA name):=by
 obtain⟨o,es,ep,ho,hd,hk,_,hm⟩:=n
 refine⟨o,ho,fun name=>?_⟩
 have e:=hm name
 unfold nsFind findBy at e
 rw[←Array.find?_toList] at e
 unfold PySem.W.lookIn
 rw[hd]
 dsimp only
 split
 ·rename_i y q
  rw[q] at e
  exact congrArg some e
 ·rename_i q
  rw[q] at e
  have a:es.toList.any (·.refKey)=false:=by
   rw[cQ]
   intro y hy
   obtain⟨z,t,hkey⟩:=hk y (Array.mem_toList_iff.mp hy)
   simp[DictEntry.refKey,hkey]
  have a':¬es.toList.any (·.refKey)=true:=by rw[a];exact bC
  rw[if_neg a']
  exact congrArg some e
theorem ObjM.look{h:Heap}{x dx C:Addr}{mA:Str->Option Value}(I:ObjM h x dx C mA):∃od,PySem.W.InstAt h x (PySem.W.instObj C dx) C (some od)/\∀name,PySem.W.lookIn name od=some (mA name):=
 let ⟨od,ho,hl⟩:=awB I.ns
 ⟨od,⟨I.obj,rfl,rfl,ho⟩,hl⟩
section
variable{prog:Program}{w:World}{A:Around}{E:Value->Shared->Prop}{s:Shared}{K:FG}{x dx C f:Addr}{mA:Str->Option Value}{name:Str}{v:Value}
theorem aAG{expr:Bool}{Q:Value->Shared->Prop}(X:K.In s.heap)(I:ObjM s.heap x dx C mA)(hg:PySem.W.plainGet K C name=true)(hh:PySem.W.hasDictIn K C=true)
  (ha:PySem.W.findIn K (.ref C) name=some none) (hv:mA name=some v) (hv':PySem.W.handedIn v=true) (h:Q v {s with toks:=s.toks+1}):
  wpAny (model prog w) A (getAttr (.ref x) name expr) Q E s:=by
 obtain⟨od,J,hl⟩:=I.look
 exact PySem.W.get_value X J (PySem.W.plainGet_of hg).1 (PySem.W.findObj_own hh ha rfl (by rw[hl,hv])) hv' h
theorem ay5{pl:Sem Bool}{Q:Value×List Value->Shared->Prop}(X:K.In s.heap)(I:ObjM s.heap x dx C mA)(hg:PySem.W.plainGet K C name=true)
  (hf:PySem.W.findIn K (.ref C) name=some (some (.ref f))) (ht:PySem.W.isFn K (.ref f)=true) (hv:mA name=none) (h:Q (.ref f,[.ref x]) s):
  wpAny (model prog w) A (getMethod (.ref x) name pl) Q E s:=by
 obtain⟨od,J,hl⟩:=I.look
 exact PySem.W.method_fn X J (PySem.W.plainGet_of hg).1 (PySem.W.plainGet_of hg).2 hf (beq_iff_eq.mp ht) (by show (PySem.W.lookIn name od).map (·.isSome)=some false;rw[hl,hv];rfl) h
theorem azX{ns:List Str}{Q:Unit->Shared->Prop}(X:K.In s.heap)(I:ObjM s.heap x dx C mA)
  (hs:PySem.W.findIn K (.ref C) "__setattr__"=some (some (.builtin "object.__setattr__"))) (hp:PySem.W.plainOver K C=true) (ht:PySem.W.takerIn K C name=some none) (hh:PySem.W.hasDictIn K C=true)
  (hw:PySem.Within mA ns) (hsz:ns.length<=sizeLine)
  (h:∀h',ObjM h' x dx C (fun y=>if y=name then some v else mA y)->Heap.SameBut dx s.heap h'->Q () {s with heap:=h',toks:=s.toks+2}):
  wpAny (model prog w) A (setAttr (.ref x) name v) Q E s:=by
 obtain⟨od,J,hl⟩:=I.look
 refine PySem.W.set_plain X J hs (PySem.W.osa_open (s:={s with toks:=s.toks+1}) (r:=none) X J hp ht fun b=>?_)
 obtain⟨cd,hc,hd'⟩:=PySem.W.any_some hh
 have hx:s.heap.get? x=some ⟨.ref C,some dx,.plain,#[]⟩:=I.obj
 refine dW (eC (dW (dW (wpAny_loadPart hx (dW (PySem.W.Looks.here (s:={s with toks:=s.toks+1}) (PySem.W.looks_clsIn X hc) ?_))))))
 rw[hd']
 refine eC (a:=some dx) (dW (eC (dW ?_)))
 refine wpAny_nsSet1 (s:={s with toks:=s.toks+1}) I.ns fun h' hn2 hs2=>?_
 obtain⟨oD,esD,epD,hoD,hdD,hcD⟩:=hn2.count (PySem.Within.cons name v hw)
 refine dW (wpAny_lookBehind hoD (by rw[hdD];exact pastItsLine_dict (bT hcD (by rw[bJ];omega))) ?_)
 exact eC (h _ ⟨(hs2.2 _ (Ne.symm I.ne)).trans I.obj,hn2,I.ne⟩ hs2)
theorem azS{R:Result->Shared->Prop}{vs:List Value}{kw:List (Str×Value)}(X:K.In s.heap)(hm:PySem.W.makesIn K C=true)
  (hi:PySem.W.findIn K (.ref C) "__init__"=some (some (.ref f))) (hf:PySem.W.typeIn K (.ref f)=some (.type "function"))
  (h:codeAny (model prog w) (A.under (.builtin "type.__call__" ⟨.ref C::vs,kw⟩)) (.call (.ref f) ⟨.ref (s.heap.objs.size+1)::vs,kw⟩) (PySem.W.InitBack (s.heap.objs.size+1) R)
   {s with heap:=(s.heap.push PySem.W.emptyDict).push (PySem.W.instObj C s.heap.objs.size)}):
  codeAny (model prog w) A (.call (.ref C) ⟨vs,kw⟩) R s:=by
 obtain⟨hh,g,d,t,os⟩:=s
 exact PySem.W.make_core (PySem.W.makes_of X hm) (PySem.W.looks_findIn X hi) (fun self=>PySem.W.bind_fn X self hf) (.inl rfl) h
theorem awR{R:Result->Shared->Prop}(X:K.In s.heap)(hm:PySem.W.makesIn K C=true)
  (hi:PySem.W.findIn K (.ref C) "__init__"=some (some (.builtin "object.__init__")))
  (hb:∀self,PySem.W.Looks (model prog w) s.heap (bindSpecial (.builtin "object.__init__") self) (.builtin "object.__init__",[self]))
  (h:codeAny (model prog w) (A.under (.builtin "type.__call__" ⟨[.ref C],[]⟩)) (.call (.builtin "object.__init__") ⟨[.ref (s.heap.objs.size+1)],[]⟩) (PySem.W.InitBack (s.heap.objs.size+1) R)
   {s with heap:=(s.heap.push PySem.W.emptyDict).push (PySem.W.instObj C s.heap.objs.size)}):
  codeAny (model prog w) A (.call (.ref C) ⟨[],[]⟩) R s:=by
 obtain⟨hh,g,d,t,os⟩:=s
 exact PySem.W.make_core (PySem.W.makes_of X hm) (PySem.W.looks_findIn X hi) hb (.inr ⟨rfl,rfl⟩) h
end
noncomputable def aaY(f:Str)(v:V):List (Str×V)->List (Str×V)
 |[]=>[(f,v)]
 |(g,x)::r=>if g=f then (g,v)::r else (g,x)::aaY f v r
theorem aaD(f g:Str)(v:V):∀fs:List (Str×V),(aaY f v fs).lookup g=if g=f then some v else fs.lookup g
 |[]=>by
  show List.lookup g [(f,v)]=_
  by_cases h:g=f
  ·have hb:(g==f)=true:=beq_iff_eq.mpr h
   simp only[List.lookup,hb,if_pos h]
  ·have hb:(g==f)=false:=beq_eq_false_iff_ne.mpr h
   simp only[List.lookup,hb,if_neg h]
 |(k,x)::r=>by
  have ih:=aaD f g v r
  rw[show aaY f v ((k,x)::r)=(if k=f then (k,v)::r else (k,x)::aaY f v r) from rfl]
  by_cases hk:k=f
  ·rw[if_pos hk]
   by_cases h:g=k
   ·have hb:(g==k)=true:=beq_iff_eq.mpr h
    simp only[List.lookup,hb,if_pos (h.trans hk)]
   ·have hb:(g==k)=false:=beq_eq_false_iff_ne.mpr h
    simp only[List.lookup,hb,if_neg (fun e:g=f=>h (e.trans hk.symm))]
  ·rw[if_neg hk]
   by_cases h:g=k
   ·have hb:(g==k)=true:=beq_iff_eq.mpr h
    simp only[List.lookup,hb,if_neg (fun e:g=f=>hk (h.symm.trans e))]
   ·have hb:(g==k)=false:=beq_eq_false_iff_ne.mpr h
    simp only[List.lookup,hb]
    exact ih
theorem aiO(f:Str)(v:V):∀fs:List (Str×V),f∈(aaY f v fs).map (·.1)/\∀g,g∈fs.map (·.1)->g∈(aaY f v fs).map (·.1)
 |[]=>⟨by simp[aaY],fun g h=>by simp at h⟩
 |(k,x)::r=>by
  obtain⟨i1,i2⟩:=aiO f v r
  rw[show aaY f v ((k,x)::r)=(if k=f then (k,v)::r else (k,x)::aaY f v r) from rfl]
  by_cases hk:k=f
  ·rw[if_pos hk]
   subst hk
   exact⟨by simp,fun g h=>by simpa using h⟩
  ·rw[if_neg hk]
   refine⟨?_,fun g h=>?_⟩
   ·rw[bI]
    exact bF _ i1
   ·rw[bI] at h ⊢
    rcases aX.mp h with e | e
    ·exact aX.mpr (.inl e)
    ·exact bF _ (i2 g e)
theorem ajK(f:Str)(v:V):∀fs:List (Str×V),(aaY f v fs).length<=fs.length+1
 |[]=>by simp[aaY]
 |(k,x)::r=>by
  have ih:=ajK f v r
  rw[show aaY f v ((k,x)::r)=(if k=f then (k,v)::r else (k,x)::aaY f v r) from rfl]
  by_cases hk:k=f
  ·rw[if_pos hk,bJ,bJ];omega
  ·rw[if_neg hk,bJ,bJ];omega
theorem RelO.some_of{v:V}{o:Option Value}(r:RelO (some v) o):∃u,o=some u/\RelV v u:=by
 cases o with
 |none=>exact (show False from r).elim
 |some u=>exact⟨u,rfl,r⟩
theorem RelO.none_of{o:Option Value}(r:RelO none o):o=none:=by
 cases o with
 |none=>rfl
 |some u=>exact (show False from r).elim
theorem awE{v:V}{u:Value}(r:RelV v u):PySem.W.handedIn u=true:=by
 cases v with
 |non=>cases (show u=Value.none from r);rfl
 |bl b=>cases (show u=Value.bool b from r);rfl
 |int i=>obtain⟨t,e⟩:=(show ∃t,u=Value.int i t from r);cases e;rfl
 |str x=>obtain⟨t,e⟩:=(show ∃t,u=Value.str x t from r);cases e;rfl
 |byt b=>obtain⟨t,e⟩:=(show ∃t,u=Value.bytes b t from r);cases e;rfl
 |flt b=>obtain⟨t,e⟩:=(show ∃t,u=Value.float b t from r);cases e;rfl
 |ref a=>cases (show u=Value.ref a from r);rfl
 |ty n=>cases (show u=Value.type n from r);rfl
section
variable{P:Program}{w:World}{H H':Hp}{h h':Heap}{a C dx:Addr}{fs fs':List (Str×V)}
theorem akQ(hok:HOk P w H h)(e:H a=some (.ins C dx fs)):∃mA,ObjM h a dx C mA/\(∀f,RelO (fs.lookup f) (mA f))/\PySem.Within mA (fs.map (·.1))/\fs.length<=1000/\H dx=some (.own a):=by
 obtain⟨d,z,ne,ob,mA,n,r,q⟩:=(show ObjOk P w H h a (.ins C dx fs) from hok a _ e)
 exact⟨mA,⟨ob,n,ne⟩,r,q,z,d⟩
end
structure Cls(K:FG)(C:Addr):Prop where
 pg:PySem.W.plainGet K C Str.empty=true
 hd:PySem.W.hasDictIn K C=true
 po:PySem.W.plainOver K C=true
 sa:PySem.W.findIn K (.ref C) "__setattr__"=some (some (.builtin "object.__setattr__"))
theorem Cls.get{K:FG}{C:Addr}(c:Cls K C)(f:Str):PySem.W.plainGet K C f=true:=c.pg
noncomputable def NoAttr(K:FG)(C:Addr)(f:Str):Prop:=PySem.W.findIn K (.ref C) f=some none
theorem NoAttr.taker{K:FG}{C:Addr}{f:Str}(n:NoAttr K C f):PySem.W.takerIn K C f=some none:=by
 unfold PySem.W.takerIn
 rw[show PySem.W.findIn K (.ref C) f=some none from n]
 rfl
structure Meth(K:FG)(C:Addr)(m:Str)(f:Addr):Prop where
 at_:PySem.W.findIn K (.ref C) m=some (some (.ref f))
 fn:PySem.W.isFn K (.ref f)=true
 kp:PySem.W.keepIn K (.ref f)=true
section
variable{X:Cx}{pins:List (Addr×Obj)}{σ:St}{H:Hp}{s:Shared}{a C dx:Addr}{fs:List (Str×V)}{f:Str}{v:V}{A:Around}{E:Value->Shared->Prop}
theorem atB{b:Bool}{Q:Value->Shared->Prop}(I:Inv X pins σ H s)(e:H a=some (.ins C dx fs))(c:Cls X.K C)(n:NoAttr X.K C f)(l:fs.lookup f=some v)
  (h:∀u s',Inv X pins σ H s'->RelV v u->Q u s'):wpAny (model X.prog X.w) A (getAttr (.ref a) f b) Q E s:=by
 obtain⟨mA,O,r,_,_,_⟩:=akQ I.hok e
 obtain⟨u,hu,ru⟩:=RelO.some_of (v:=v) (o:=mA f) (by rw[←l];exact r f)
 exact aAG I.kIn O (c.get f) c.hd n hu (awE ru) (h u _ (I.tok _) ru)
theorem amI{m:Str}{g:Addr}{pl:Sem Bool}{Q:Value×List Value->Shared->Prop}(I:Inv X pins σ H s)(e:H a=some (.ins C dx fs))(c:Cls X.K C)(k:Meth X.K C m g)(l:fs.lookup m=none)
  (h:Q (.ref g,[.ref a]) s):wpAny (model X.prog X.w) A (getMethod (.ref a) m pl) Q E s:=by
 obtain⟨mA,O,r,_,_,_⟩:=akQ I.hok e
 have hn:mA m=none:=RelO.none_of (by rw[←l];exact r m)
 exact ay5 I.kIn O (c.get m) k.at_ k.fn hn h
theorem atF{y:V}{u:Value}{Q:Unit->Shared->Prop}(I:Inv X pins σ H s)(e:H a=some (.ins C dx fs))(c:Cls X.K C)(n:NoAttr X.K C f)(hl:fs.length<1000)(ry:RelV y u)
  (h:∀s',Inv X pins σ (upd H a (.ins C dx (aaY f y fs))) s'->Q () s'):wpAny (model X.prog X.w) A (setAttr (.ref a) f u) Q E s:=by
 obtain⟨mA,O,r,wi,_,ho⟩:=akQ I.hok e
 have hz:(fs.map (·.1)).length<=sizeLine:=by rw[aU,dY];omega
 refine azX I.kIn O c.sa c.po n.taker c.hd wi hz fun h' O' sb=>h _ ?_
 have hd:∃o,h'.get? dx=some o:=let ⟨o,_,_,e',_⟩:=O'.ns;⟨o,e'⟩
 refine I.write (x:=a) (e:=dx) (by rw[e];exact True.intro) (.inr ho) (fun b q hb z=>(sb.2 b hb).trans z) hd ?_
 refine⟨by rw[aaE O.ne];exact ho,?_,O.ne,O'.obj,_,O'.ns,fun g=>?_,fun g hg=>?_⟩
 ·have:=ajK f y fs;omega
 ·show RelO ((aaY f y fs).lookup g) (if g=f then some u else mA g)
  rw[aaD]
  by_cases q:g=f
  ·rw[if_pos q,if_pos q];exact ry
  ·rw[if_neg q,if_neg q];exact r g
 ·by_cases q:g=f
  ·rw[q];exact (aiO f y fs).1
  ·refine (aiO f y fs).2 g (wi g fun z=>hg ?_)
   show (if g=f then some u else mA g)=none
   rw[if_neg q];exact z
theorem Inv.made(I:Inv X pins σ H s):Inv X pins σ (upd (upd H s.heap.objs.size (.own (s.heap.objs.size+1))) (s.heap.objs.size+1) (.ins C s.heap.objs.size []))
  {s with heap:=(s.heap.push PySem.W.emptyDict).push (PySem.W.instObj C s.heap.objs.size)}:=by
 have e1:(s.heap.push PySem.W.emptyDict).get? s.heap.objs.size=some PySem.W.emptyDict:=bL s.heap rfl
 have e2:((s.heap.push PySem.W.emptyDict).push (PySem.W.instObj C s.heap.objs.size)).get? (s.heap.objs.size+1)=some (PySem.W.instObj C s.heap.objs.size):=by
  have:=bL (s.heap.push PySem.W.emptyDict) (o:=PySem.W.instObj C s.heap.objs.size) rfl
  rwa [cR] at this
 have e3:(s.heap.push PySem.W.emptyDict).Ns s.heap.objs.size (fun _=>none):=⟨PySem.W.emptyDict,#[],_,e1,rfl,(fun e he=>absurd he (by simp)),fun _=>rfl⟩
 have I1:=I.laid (a:=s.heap.objs.size) (o:=.own (s.heap.objs.size+1)) (h':=s.heap.push PySem.W.emptyDict) (t':=s.toks) (fun b u q=>bB _ q) (aV _) ⟨_,e1⟩
 refine I1.laid (a:=s.heap.objs.size+1) (o:=.ins C s.heap.objs.size []) (t':=s.toks) (fun b u q=>bB _ q) (Nat.le_of_eq (cR _ _)) ?_
 have ne:s.heap.objs.size≠s.heap.objs.size+1:=bD (Nat.lt_succ_self _)
 refine⟨by rw[aaE ne,aaA],bM _,ne,e2,fun _=>none,(Heap.Ns1.of_empty e3).at fun o q=>bB _ q,fun _=>True.intro,fun y hy=>absurd rfl hy⟩
theorem aAT{prog:Program}{w:World}{env:Env}{e:Expr}{f:Str}{pos:Pos}{s:Shared}{Q:Value->Shared->Prop}(hb:attributeBase e f env (eval e env)=eval e env)
  (h:wpAny (model prog w) A (eval e env) (fun o s₁=>wpAny (model prog w) A (getAttr o f true) Q E s₁) E s):wpAny (model prog w) A (eval (.Attribute e f pos) env) Q E s:=
 Attribute_any_ h (by rw[arm_eval_Attribute,hb])
end
noncomputable def aBI(K:FG)(ta:TE)(f:Str):TE:=fun σ H Q=>ta σ H fun x H1=>∃a C dx fs v,x=.ref a/\H1 a=some (.ins C dx fs)/\Cls K C/\NoAttr K C f/\fs.lookup f=some v/\Q v H1
noncomputable def aGW(K:FG)(ta tv:TE)(f:Str):TS:=fun D σ H=>tv σ H fun y H1=>ta σ H1 fun x H2=>∃a C dx fs,x=.ref a/\H2 a=some (.ins C dx fs)/\Cls K C/\NoAttr K C f/\fs.length<1000/\
 D.nx σ (upd H2 a (.ins C dx (aaY f y fs)))
section
variable{X:Cx}{o e value:Expr}{f:Str}{pos pos' tpos:Pos}{ta tv:TE}
theorem aFR(he:PE X e ta)(hb:attributeBase e f X.env (eval e X.env)=eval e X.env):PE X (.Attribute e f pos) (aBI X.K ta f):=by
 intro pins s σ H Q I h
 refine aAT hb (thn (he pins s σ H _ I h) fun u s1 ⟨x,H1,I1,rx,a,C,dx,fs,v,ex,ea,c,n,l,q⟩=>?_)
 subst ex
 obtain rfl:u=Value.ref a:=rx
 exact atB I1 ea c n l fun u' s2 I2 ru=>⟨v,H1,I2,ru,q⟩
theorem aEG(ha:PE X o ta)(hv:PE X value tv)(hs:swapsWith value (some (.Attribute o f pos')) pos.line X.env=pure false):PS X (.Assign [.Attribute o f pos'] value pos) (aGW X.K ta tv f):=by
 intro pins s σ H D I h
 refine plainObj_wpAny_Assign_Attribute (thn (hv pins s σ H _ I h) fun u s1 ⟨y,H1,I1,ry,q⟩=>thn (ha pins s1 σ H1 _ I1 q) fun ov s2 ⟨x,H2,I2,rx,a,C,dx,fs,ex,ea,c,n,l,q2⟩=>?_) hs
 subst ex
 obtain rfl:ov=Value.ref a:=rx
 exact atF I2 ea c n l ry fun s3 I3=>⟨σ,_,I3,q2⟩
end
section
variable{X:Cx}{pins:List (Addr×Obj)}{σ:St}{H:Hp}{s:Shared}{A:Around}{E:Value->Shared->Prop}{Q:Value->Shared->Prop}{c:Value}{b:Bool}
inductive TyOf (K:FG) (H:Hp):V->Value->Prop where
 |non:TyOf K H .non (.type "NoneType")
 |bl (x:Bool):TyOf K H (.bl x) (.type "bool")
 |int (i:Int):TyOf K H (.int i) (.type "int")
 |str (x:Str):TyOf K H (.str x) (.type "str")
 |flt (x:UInt64):TyOf K H (.flt x) (.type "float")
 |lst {a:Addr} {xs:List V} (e:H a=some (.lst xs)):TyOf K H (.ref a) (.type "list")
 |frz {a:Addr} {o:Obj} {xs:List V} (e:H a=some (.frz o (.lst xs))):TyOf K H (.ref a) (.type "list")
 |tup {a:Addr} {xs:List V} (e:H a=some (.tup xs)):TyOf K H (.ref a) (.type "tuple")
 |dK {a:Addr} {kvs:List (Key×V)} (e:H a=some (.dK kvs)):TyOf K H (.ref a) (.type "dict")
 |dT {a:Addr} {kvs:List (List Key×V)} (e:H a=some (.dT kvs)):TyOf K H (.ref a) (.type "dict")
 |ins {a C dx:Addr} {fs:List (Str×V)} (e:H a=some (.ins C dx fs)) (cl:Cls K C) (ha:PySem.W.findIn K (.ref C) "__class__"=some (some (.builtin "object.__class__")))
   (hn:PySem.W.specialIn K (.builtin "object.__class__") "__get__"=some (some (.builtin "getset_descriptor.__get__"))) (htk:PySem.W.takesIn K (.builtin "object.__class__")=some true)
   (hm:PySem.W.mroIn K C (.type "object")=some true):TyOf K H (.ref a) (.ref C)
theorem av4{x:V}{u t:Value}(I:Inv X pins σ H s)(rx:RelV x u)(ty:TyOf X.K H x t)(e:PySem.W.kitOne X.K t c=some b)(h:∀tk,Q (.bool b) {s with toks:=tk}):
  wpAny (model X.prog X.w) A (call (.builtin "isinstance") [u,c]) Q E s:=by
 cases ty with
 |non=>cases (show u=Value.none from rx);exact PySem.W.kia_one PySem.W.kitx_none I.kIn True.intro e (fun z=>nomatch z) h
 |bl y=>cases (show u=Value.bool y from rx);exact PySem.W.kia_one PySem.W.kitx_bool I.kIn True.intro e (fun z=>nomatch z) h
 |int i=>obtain⟨t,q⟩:=(show ∃t,u=Value.int i t from rx);cases q;exact PySem.W.kia_one PySem.W.kitx_int I.kIn True.intro e (fun z=>nomatch z) h
 |str y=>obtain⟨t,q⟩:=(show ∃t,u=Value.str y t from rx);cases q;exact PySem.W.kia_one PySem.W.kitx_str I.kIn True.intro e (fun z=>nomatch z) h
 |flt y=>obtain⟨t,q⟩:=(show ∃t,u=Value.float y t from rx);cases q;exact PySem.W.kia_one PySem.W.kitx_float I.kIn True.intro e (fun z=>nomatch z) h
 |@lst a xs ea=>
  cases (show u=Value.ref a from rx)
  obtain⟨_,_,n,_,h1⟩:=(show ObjOk X.prog X.w H s.heap a (.lst xs) from I.hok a _ ea)
  exact PySem.W.kia_one PySem.W.kitx_list I.kIn ⟨_,h1,rfl⟩ e (fun z=>nomatch z) h
 |@frz a ob xs ea=>
  cases (show u=Value.ref a from rx)
  obtain⟨_,_,_,n,_,h1⟩:=(show ObjOk X.prog X.w H s.heap a (.frz ob (.lst xs)) from I.hok a _ ea)
  exact PySem.W.kia_one PySem.W.kitx_list I.kIn ⟨_,h1,rfl⟩ e (fun z=>nomatch z) h
 |@tup a xs ea=>
  cases (show u=Value.ref a from rx)
  obtain⟨_,_,_,p⟩:=(show ObjOk X.prog X.w H s.heap a (.tup xs) from I.hok a _ ea)
  obtain⟨o,h1,h2,_⟩:=p
  exact PySem.W.kia_one PySem.W.kitx_tuple I.kIn ⟨o,h1,h2⟩ e (fun z=>nomatch z) h
 |@dK a kvs ea=>
  cases (show u=Value.ref a from rx)
  obtain⟨_,_,vs,_,p⟩:=(show ObjOk X.prog X.w H s.heap a (.dK kvs) from I.hok a _ ea)
  obtain⟨o,es,ep,h1,h2,_⟩:=p
  exact PySem.W.kia_one PySem.W.kitx_dict I.kIn ⟨o,h1,h2.1⟩ e (fun z=>nomatch z) h
 |@dT a kvs ea=>
  cases (show u=Value.ref a from rx)
  obtain⟨_,_,xs,_,o,es,ep,h1,h2,_⟩:=(show ObjOk X.prog X.w H s.heap a (.dT kvs) from I.hok a _ ea)
  exact PySem.W.kia_one PySem.W.kitx_dict I.kIn ⟨o,h1,h2.1⟩ e (fun z=>nomatch z) h
 |@ins a C dx fs ea cl ha hn htk hm=>
  cases (show u=Value.ref a from rx)
  obtain⟨mA,O,_⟩:=akQ I.hok ea
  obtain⟨od,J,_⟩:=O.look
  exact PySem.W.kia_one (PySem.W.kitx_own (cl.get _) cl.hd ha hn htk hm) I.kIn J e (fun z=>nomatch z) h
end
structure Room(k:Nat)(A:Around):Prop where
 hd:A.handled=none
 dp:A.depth+3*k+5<recursionLimit
 un:A.units+16*k+200<cLine
theorem Room.mono{j k:Nat}{A:Around}(r:Room k A)(h:j<=k):Room j A:=⟨r.hd,by have:=r.dp;omega,by have:=r.un;omega⟩
theorem Room.deeper{k:Nat}{A:Around}(r:Room (k+1) A)(env:Env):Room k (A.deeper env):=
 ⟨r.hd,by have:=r.dp;show A.depth+1+3*k+5<_;omega,by have:=r.un;show A.units+3+16*k+200<_;omega⟩
theorem atV{A:Around}{C:Addr}{us:List Value}{kw:List (Str×Value)}:(A.under (.builtin "type.__call__" ⟨.ref C::us,kw⟩)).depth=A.depth+1:=by
 first | rfl | simp[Around.under,Code.weight,Code.isCreation,Code.isGuard,Code.isCaller,Code.frames,Code.isFrame,guardIds]
theorem as8{A:Around}{C:Addr}{us:List Value}{kw:List (Str×Value)}:(A.under (.builtin "type.__call__" ⟨.ref C::us,kw⟩)).units=A.units+1:=by
 first | rfl | simp[Around.under,Code.cUnits,Code.frames,Code.isFrame]
theorem Room.make{k:Nat}{A:Around}(r:Room (k+1) A)(C:Addr)(us:List Value)(kw:List (Str×Value)):Room k (A.under (.builtin "type.__call__" ⟨.ref C::us,kw⟩)):=
 ⟨r.hd,by have:=r.dp;rw[atV];omega,by have:=r.un;rw[as8];omega⟩
theorem Room.depth{k:Nat}{A:Around}(r:Room k A):A.depth<recursionLimit:=by have:=r.dp;omega
theorem Room.units{k:Nat}{A:Around}(r:Room k A):A.units+64<cLine:=by have:=r.un;omega
noncomputable def adJ:TA:=fun _ H Q=>Q [] H
noncomputable def ac0(ta:TE)(tr:TA):TA:=fun σ H Q=>ta σ H fun x H1=>tr σ H1 fun xs H2=>Q (x::xs) H2
section
variable{X:Cx}{e:Expr}{es:List Expr}{te:TE}{t:TA}{pos:Pos}
theorem ac7:PA X [] adJ:=fun _ _ _ _ H Q I h=>Calls.spliced_nil ⟨[],H,I,.nil,h⟩
theorem acB(ha:PE X e te)(hr:PA X es t)(hs:starEach (e::es) X.env=(false,eval e X.env)::starEach es X.env:=by rfl):PA X (e::es) (ac0 te t):=by
 intro pos pins s σ H Q I h
 rw[hs]
 show wpAny _ _ (spliced ((false,eval e X.env)::backTo pos (starEach es X.env))) _ _ s
 refine Calls.spliced_cons (thn (ha pins s σ H _ I h) fun u s1 ⟨x,H1,I1,r1,q1⟩=>?_)
 exact thn (hr pos pins s1 σ H1 _ I1 q1) fun us s2 ⟨xs,H2,I2,r2,q2⟩=>⟨x::xs,H2,I2,.cons r1 r2,q2⟩
noncomputable def aO2(t:TA):TE:=fun σ H Q=>t σ H fun xs H1=>xs.length<=sizeLine/\∀p,H1 p=none->Q (.ref p) (upd H1 p (.tup xs))
noncomputable def aGS(t:TA):TE:=fun σ H Q=>t σ H fun xs H1=>xs.length<=sizeLine/\∀p,H1 p=none->Q (.ref p) (upd H1 p (.lst xs))
theorem aEH{x1}(h:PA X es t):PE X (.Tuple es x1 pos) (aO2 t):=by
 intro pins s σ H Q I hq
 refine wpAny_Tuple_spliced (thn (h pos pins s σ H _ I hq) fun us s1 ⟨xs,H1,I1,r,z,q⟩=>⟨by rw[←r.length];exact z,?_⟩)
 have hf:H1 s1.heap.objs.size=none:=I1.hok.fresh (aV _)
 refine⟨.ref s1.heap.objs.size,upd H1 s1.heap.objs.size (.tup xs),I1.laid (t':=s1.toks) (fun b u e=>bB _ e) (aV _) ?_,rfl,q _ hf⟩
 exact⟨z,us,r,⟨_,bL _ rfl,rfl,_,rfl⟩⟩
theorem aD3(h:PA X es t):PE X (.List es pos) (aGS t):=by
 intro pins s σ H Q I hq
 refine wpAny_List_spliced (thn (h pos pins s σ H _ I hq) fun us s1 ⟨xs,H1,I1,r,z,q⟩=>⟨by rw[←r.length];exact z,?_⟩)
 have hf:H1 s1.heap.objs.size=none:=I1.hok.fresh (aV _)
 refine⟨.ref s1.heap.objs.size,upd H1 s1.heap.objs.size (.lst xs),I1.laid (t':=s1.toks) (fun b u e=>bB _ e) (aV _) ?_,rfl,q _ hf⟩
 exact⟨z,us,0,r,bL _ rfl⟩
end
noncomputable abbrev Sp:=List V->Hp->VK->XK->Prop
noncomputable abbrev CXT:=List Env->Hp->Shared->XK->Value->Shared->Prop
structure Env0(P:Program)(w:World)(K:FG)(mg:Str->Option Value)(base:Heap)(A:Around)(outer:List Env)(s:Shared)(H:Hp):Prop where
 frames:A.frames=some outer
 mod:Mod K mg base
 bs:∀b o,base.get? b=some o->s.heap.get? b=some o/\H b=none
 bsz:base.objs.size<=s.heap.objs.size
 funs:s.heap.FunFrames base outer
 frf:∀b∈frs outer,H b=none
 hok:HOk P w H s.heap
 bare:AllBare s.gens
noncomputable def CE(outer:List Env)(P:Program)(w:World)(H:Hp)(s:Shared)(Q:VK)(u:Value)(s':Shared):Prop:=
 ∃v H',s'.os=s.os/\AllBare s'.gens/\Un (frs outer) [] H H' s.heap s'.heap/\HOk P w H' s'.heap/\RelV v u/\Q v H'
noncomputable def CR(CX:CXT)(outer:List Env)(P:Program)(w:World)(H:Hp)(s:Shared)(Q:VK)(E:XK)(r:Result)(s':Shared):Prop:=
 match r with
 |.ok (.ret u)=>CE outer P w H s Q u s'
 |.ok _=>False
 |.error e=>CX outer H s E e s'
structure FnOk(P:Program)(w:World)(K:FG)(mg:Str->Option Value)(base:Heap)(CX:CXT)(k:Nat)(f:Addr)(fd:FuncData)(ps:List Str)(sp:Sp):Prop where
 len:∀vs H Q E,sp vs H Q E->vs.length=ps.length
 run:∀(A:Around) (outer:List Env) (s:Shared) (H:Hp) (args:Args) (us:List Value) (vs:List V) (Q:VK) (E:XK),Room k A->Env0 P w K mg base A outer s H->BindsTo s fd args (ps.zip us)->Vals vs us->sp vs H Q E->
  codeAny (model P w) A (.call (.ref f) args) (CR CX outer P w H s Q E) s
theorem Env0.make{P:Program}{w:World}{K:FG}{mg:Str->Option Value}{base:Heap}{A:Around}{outer:List Env}{s:Shared}{H:Hp}(e:Env0 P w K mg base A outer s H)(C:Addr)(us:List Value)(kw:List (Str×Value)):
  Env0 P w K mg base (A.under (.builtin "type.__call__" ⟨.ref C::us,kw⟩)) outer s H:=⟨by first | exact e.frames | (simpa [Around.under,Code.envs,Code.isFrame,pushEnvs] using e.frames),e.mod,e.bs,e.bsz,e.funs,e.frf,e.hok,e.bare⟩
section
variable{X:Cx}{pins:List (Addr×Obj)}{σ:St}{H:Hp}{s s':Shared}
theorem Inv.env0(I:Inv X pins σ H s):Env0 X.prog X.w X.K X.mg X.base X.A X.stack s H:=
 ⟨I.ok.frames,I.ok.mod,I.bs,bT I.ok.bsz I.sz,I.stack,I.stkFree,I.hok,I.bare⟩
theorem Inv.after{Q:VK}{u:Value}(I:Inv X pins σ H s)(h:CE X.stack X.prog X.w H s Q u s'):EP X pins σ Q u s':=by
 obtain⟨v,H',os,bare,un,hok,r,q⟩:=h
 obtain⟨hh,g,d,t,os'⟩:=s'
 obtain rfl:os'=s.os:=os
 exact⟨v,H',I.call (h':=hh) (g':=g) (d':=d) (t':=t) (ch:=[]) un hok bare (fun b z=>absurd z (by simp)),r,q⟩
end
noncomputable def ai2(sp:Sp)(dvs:List V)(E:XK)(t:TA):TE:=fun σ H Q=>t σ H fun vs H1=>sp (vs++dvs) H1 Q E
noncomputable def aqN(C:Addr)(m:Str)(sp:Sp)(dvs:List V)(E:XK)(ta:TE)(t:TA):TE:=fun σ H Q=>ta σ H fun x H1=>∃a dx fs,x=.ref a/\H1 a=some (.ins C dx fs)/\fs.lookup m=none/\
 t σ H1 fun vs H2=>sp (x::(vs++dvs)) H2 Q E
noncomputable def asK(C:Addr)(sp:Sp)(dvs:List V)(E:XK)(t:TA):TE:=fun σ H Q=>t σ H fun vs H1=>∀x dx,H1 x=none->H1 dx=none->dx≠x->
 sp (.ref x::(vs++dvs)) (upd (upd H1 dx (.own x)) x (.ins C dx [])) (fun v H2=>v=.non/\Q (.ref x) H2) E
noncomputable def Binds(K:FG)(fd:FuncData)(ps:List Str)(ds:List Value):Prop:=
 ∀(s:Shared) (us:List Value),K.In s.heap->(us++ds).length=ps.length->BindsTo s fd ⟨us,[]⟩ (ps.zip (us++ds))
theorem Binds.all{K:FG}{fd:FuncData}{ps:List Str}(h:∀us:List Value,us.length=ps.length->bindArgs fd ⟨us,[]⟩=pure (ps.zip us)):Binds K fd ps []:=fun s us _ hl=>by
 rw[cS] at hl ⊢
 exact .of_eq (h us hl)
noncomputable def acH(CX:CXT)(X:Cx)(E:XK):Prop:=∀(pins:List (Addr×Obj)) (σ:St) (H:Hp) (s:Shared) (e:Value) (s':Shared),Inv X pins σ H s->CX X.stack H s E e s'->X.xe e s'
section
variable{X:Cx}{CX:CXT}{k:Nat}{f C:Addr}{fd:FuncData}{ps:List Str}{sp:Sp}{dvs:List V}{ds:List Value}{E:XK}{x m:Str}{p pos apos:Pos}{e o:Expr}{es:List Expr}{ta:TE}{t:TA}
theorem alJ{pins:List (Addr×Obj)}{σ:St}{H:Hp}{s:Shared}{Q:VK}{us:List Value}{vs:List V}(F:FnOk X.prog X.w X.K X.mg X.base CX k f fd ps sp)(hr:Room k X.A)(hb:Binds X.K fd ps ds)(hd:Vals dvs ds)(hx:acH CX X E)
  (I:Inv X pins σ H s) (r:Vals vs us) (h:sp (vs++dvs) H Q E):wpAny (model X.prog X.w) X.A (call (.ref f) us) (EP X pins σ Q) X.xe s:=by
 have r2:Vals (vs++dvs) (us++ds):=r.append hd
 have hl:(us++ds).length=ps.length:=by rw[←r2.length];exact F.len _ _ _ _ h
 refine wpAny_call (codeAny_mono (F.run X.A X.stack s H ⟨us,[]⟩ (us++ds) (vs++dvs) Q E hr I.env0 (hb s us I.kIn hl) r2 h) fun r s' hq=>?_)
 cases r with
 |error e=>exact hx pins σ H s e s' I hq
 |ok fl=>
  cases fl with
  |ret u=>exact I.after hq
  |next=>exact False.elim hq
  |brk=>exact False.elim hq
  |cont=>exact False.elim hq
theorem auU(F:FnOk X.prog X.w X.K X.mg X.base CX k f fd ps sp)(hr:Room k X.A)(hg:Gl X x)(hm:X.mg x=some (.ref f))(hk:PySem.W.keepIn X.K (.ref f)=true)(hb:Binds X.K fd ps ds)(hd:Vals dvs ds)(hx:acH CX X E)
  (ha:PA X (e::es) t) (hdb:(x==("__debug__":Str))=false:=by decide) (he:starEach (e::es) X.env=(false,eval e X.env)::starEach es X.env:=by rfl) (hpl:(backTo pos (starEach es X.env)).any (·.1)=false:=by rfl):
  PE X (.Call (.Name x p) (e::es) [] pos) (ai2 sp dvs E t):=by
 intro pins s σ H Q I h
 refine d9 (adX I hg hm ?_ hdb)
 refine PySem.W.callWith_K (h₀:=X.base) I.ok.mod.kin hk (thn (ha pos pins s σ H _ I h) fun us s1 ⟨vs,H1,I1,r,q⟩=>⟨I1.kIn,?_⟩) he hpl
 exact alJ F hr hb hd hx I1 r q
theorem aw2(F:FnOk X.prog X.w X.K X.mg X.base CX k f fd ps sp)(hr:Room k X.A)(hg:Gl X x)(hm:X.mg x=some (.ref f))(hk:PySem.W.keepIn X.K (.ref f)=true)(hb:Binds X.K fd ps ds)(hd:Vals dvs ds)(hx:acH CX X E)
  (hdb:(x==("__debug__":Str))=false:=by decide):PE X (.Call (.Name x p) [] [] pos) (ai2 sp dvs E adJ):=by
 intro pins s σ H Q I h
 refine d9 (adX I hg hm ?_ hdb)
 exact PySem.W.callWith_K0 I.kIn hk (alJ (us:=[]) F hr hb hd hx I .nil h)
theorem aAS{pl:Sem Bool}(he:PE X o ta)(c:Cls X.K C)(hm:Meth X.K C m f)(F:FnOk X.prog X.w X.K X.mg X.base CX k f fd ps sp)(hr:Room k X.A)(hb:Binds X.K fd ps ds)(hd:Vals dvs ds)(hx:acH CX X E)(ha:PA X (e::es) t)
  (hst:starEach (e::es) X.env=(false,eval e X.env)::starEach es X.env:=by rfl) (hpl:(backTo pos (starEach es X.env)).any (·.1)=false:=by rfl)
  (ht:eval (.Call (.Attribute o m apos) (e::es) [] pos) X.env=(do
   let ov ←eval o X.env
   standAt apos.atName
   let (f,first) ←holding [ov] (getMethod ov m pl)
   callWith pos f first (backTo pos (starEach (e::es) X.env)) (backToKw pos (keywordEach [] X.env))):=by rfl):
  PE X (.Call (.Attribute o m apos) (e::es) [] pos) (aqN C m sp dvs E ta t):=by
 intro pins s σ H Q I h
 refine PySem.W.methodCall_KW (pl:=pl) (thn (he pins s σ H _ I h) fun u s1 ⟨x,H1,I1,rx,a,dx,fs,ex,ea,l,q⟩=>?_) ht
 subst ex
 obtain rfl:u=Value.ref a:=rx
 refine amI I1 ea c hm l ?_
 refine PySem.W.callWith_K (first:=[.ref a]) (h₀:=X.base) I.ok.mod.kin hm.kp (thn (ha pos pins s1 σ H1 _ I1 q) fun us s2 ⟨vs,H2,I2,r,q2⟩=>⟨I2.kIn,?_⟩) hst hpl
 exact alJ (us:=.ref a::us) (vs:=.ref a::vs) F hr hb hd hx I2 (.cons rfl r) q2
theorem axJ{pl:Sem Bool}(he:PE X o ta)(c:Cls X.K C)(hm:Meth X.K C m f)(F:FnOk X.prog X.w X.K X.mg X.base CX k f fd ps sp)(hr:Room k X.A)(hb:Binds X.K fd ps ds)(hd:Vals dvs ds)(hx:acH CX X E)
  (ht:eval (.Call (.Attribute o m apos) [] [] pos) X.env=(do
   let ov ←eval o X.env
   standAt apos.atName
   let (f,first) ←holding [ov] (getMethod ov m pl)
   callWith pos f first (backTo pos (starEach [] X.env)) (backToKw pos (keywordEach [] X.env))):=by rfl):
  PE X (.Call (.Attribute o m apos) [] [] pos) (aqN C m sp dvs E ta adJ):=by
 intro pins s σ H Q I h
 refine PySem.W.methodCall_KW (pl:=pl) (thn (he pins s σ H _ I h) fun u s1 ⟨x,H1,I1,rx,a,dx,fs,ex,ea,l,q⟩=>?_) ht
 subst ex
 obtain rfl:u=Value.ref a:=rx
 refine amI I1 ea c hm l ?_
 exact PySem.W.callWith_K0 (first:=[.ref a]) I1.kIn hm.kp (alJ (us:=[.ref a]) (vs:=[.ref a]) F hr hb hd hx I1 (.cons rfl .nil) q)
structure Mk(K:FG)(C f:Addr):Prop where
 makes:PySem.W.makesIn K C=true
 init:PySem.W.findIn K (.ref C) "__init__"=some (some (.ref f))
 fn:PySem.W.isFn K (.ref f)=true
 kp:PySem.W.keepIn K (.ref C)=true
theorem aq1{pins:List (Addr×Obj)}{σ:St}{H:Hp}{s:Shared}{Q:VK}{us:List Value}{vs:List V}(M:Mk X.K C f)(F:FnOk X.prog X.w X.K X.mg X.base CX k f fd ps sp)(hr:Room (k+1) X.A)(hb:Binds X.K fd ps ds)(hd:Vals dvs ds)
  (hx:acH CX X E) (I:Inv X pins σ H s) (r:Vals vs us)
  (h:∀x dx,H x=none->H dx=none->dx≠x->sp (.ref x::(vs++dvs)) (upd (upd H dx (.own x)) x (.ins C dx [])) (fun v H2=>v=.non/\Q (.ref x) H2) E):
  wpAny (model X.prog X.w) X.A (call (.ref C) us) (EP X pins σ Q) X.xe s:=by
 have hq:=h (s.heap.objs.size+1) s.heap.objs.size (I.hok.fresh (Nat.le_succ _)) (I.hok.fresh (aV _)) (bD (Nat.lt_succ_self _))
 have I2:=Inv.made (C:=C) I
 have r2:Vals (V.ref (s.heap.objs.size+1)::(vs++dvs)) (Value.ref (s.heap.objs.size+1)::(us++ds)):=.cons rfl (r.append hd)
 have hl:(Value.ref (s.heap.objs.size+1)::us++ds).length=ps.length:=by
  have e:=r2.length
  rw[F.len _ _ _ _ hq] at e
  exact e.symm
 refine wpAny_call (azS (f:=f) I.kIn M.makes M.init (beq_iff_eq.mp M.fn) (codeAny_mono (F.run _ X.stack _ _ ⟨Value.ref (s.heap.objs.size+1)::us,[]⟩ (Value.ref (s.heap.objs.size+1)::(us++ds)) _ _ E (hr.make C us [])
  (I2.env0.make C us []) (hb _ (Value.ref (s.heap.objs.size+1)::us) I2.kIn hl) r2 hq) fun r s' hq'=>?_))
 cases r with
 |error e=>exact hx pins σ _ _ e s' I2 hq'
 |ok fl=>
  cases fl with
  |ret u=>
   obtain⟨v,H',I3,rv,ev,q3⟩:=I2.after hq'
   subst ev
   exact⟨rv,⟨V.ref (s.heap.objs.size+1),H',I3,rfl,q3⟩⟩
  |next=>exact False.elim hq'
  |brk=>exact False.elim hq'
  |cont=>exact False.elim hq'
theorem avL(M:Mk X.K C f)(F:FnOk X.prog X.w X.K X.mg X.base CX k f fd ps sp)(hr:Room (k+1) X.A)(hg:Gl X x)(hm:X.mg x=some (.ref C))(hb:Binds X.K fd ps ds)(hd:Vals dvs ds)(hx:acH CX X E)
  (ha:PA X (e::es) t) (hdb:(x==("__debug__":Str))=false:=by decide) (he:starEach (e::es) X.env=(false,eval e X.env)::starEach es X.env:=by rfl) (hpl:(backTo pos (starEach es X.env)).any (·.1)=false:=by rfl):
  PE X (.Call (.Name x p) (e::es) [] pos) (asK C sp dvs E t):=by
 intro pins s σ H Q I h
 refine d9 (adX I hg hm ?_ hdb)
 refine PySem.W.callWith_K (h₀:=X.base) I.ok.mod.kin M.kp (thn (ha pos pins s σ H _ I h) fun us s1 ⟨vs,H1,I1,r,q⟩=>⟨I1.kIn,?_⟩) he hpl
 exact aq1 M F hr hb hd hx I1 r q
theorem ayI(M:Mk X.K C f)(F:FnOk X.prog X.w X.K X.mg X.base CX k f fd ps sp)(hr:Room (k+1) X.A)(hg:Gl X x)(hm:X.mg x=some (.ref C))(hb:Binds X.K fd ps ds)(hd:Vals dvs ds)(hx:acH CX X E)
  (hdb:(x==("__debug__":Str))=false:=by decide):PE X (.Call (.Name x p) [] [] pos) (asK C sp dvs E adJ):=by
 intro pins s σ H Q I h
 refine d9 (adX I hg hm ?_ hdb)
 exact PySem.W.callWith_K0 I.kIn M.kp (aq1 (us:=[]) M F hr hb hd hx I .nil h)
end
noncomputable def PK(X:Cx)(kws:List Keyword)(t:TA):Prop:=
 ∀(pos:Pos) (pins:List (Addr×Obj)) (s:Shared) (σ:St) (H:Hp) (Q:List V->Hp->Prop),Inv X pins σ H s->t σ H Q->wpAny (model X.prog X.w) X.A (evalAll ((backToKw pos (keywordEach kws X.env)).map (·.2))) (AP X pins σ Q) X.xe s
section
variable{X:Cx}{CX:CXT}{k:Nat}{f C:Addr}{fd:FuncData}{ps ks:List Str}{sp:Sp}{E:XK}{x m:Str}{p pos apos kpos:Pos}{e o:Expr}{es:List Expr}{kws:List Keyword}{te ta:TE}{t tk:TA}{nm:Option Str}
theorem aDS:PK X [] adJ:=fun _ _ _ _ H Q I h=>wpAny_evalAll_nil ⟨[],H,I,.nil,h⟩
theorem az6(ha:PE X e te)(hr:PK X kws t):PK X (⟨nm,e,kpos⟩::kws) (ac0 te t):=by
 intro pos pins s σ H Q I h
 show wpAny _ _ (evalAll ((do let v ←eval e X.env;standAt pos;pure v)::(backToKw pos (keywordEach kws X.env)).map (·.2))) _ _ s
 refine wpAny_evalAll_cons (dW (thn (ha pins s σ H _ I h) fun u s1 ⟨x,H1,I1,r1,q1⟩=>dW (dR (eC ?_))))
 exact thn (hr pos pins s1 σ H1 _ I1 q1) fun us s2 ⟨xs,H2,I2,r2,q2⟩=>⟨x::xs,H2,I2,.cons r1 r2,q2⟩
variable{g:List Value->List Value->List Value}{gV:List V->List V->List V}
end
structure FnScope(N P:List Str)(sc:Scope):Prop where
 kind:sc.kind=.function
 co:sc.isCoroutine=false
 gen:sc.isGenerator=false
 nd:N.Nodup
 pre:N.take P.length=P
 par:∀x∈P,sc.names.lookup x=some .local∨sc.names.lookup x=some .cell
 nofree:∀y∈sc.names,y.2≠ .free
theorem an7{kindOf:Str->Option NameKind}{x:Str}:∀{binds:List (Str×Value)} {m:Str->Option Value},(∀v,(x,v)∉binds)->bindL kindOf binds m x=m x
 |[],_,_=>rfl
 |(n,v)::r,m,h=>by
  unfold bindL
  rw[an7 fun w hw=>h w (bF _ hw)]
  split
  ·have:x≠n:=by rintro rfl;exact h v bO
   simp[this]
  ·rfl
theorem aoG{kindOf:Str->Option NameKind}{x:Str}:∀{binds:List (Str×Value)} {m:Str->Option Value},(∀v,(x,v)∉binds)->bindC kindOf binds m x=m x
 |[],_,_=>rfl
 |(n,v)::r,m,h=>by
  unfold bindC
  rw[aoG fun w hw=>h w (bF _ hw)]
  split
  ·rfl
  ·have:x≠n:=by rintro rfl;exact h v bO
   simp[this]
theorem an8{kindOf:Str->Option NameKind}{x:Str}{v:Value}:∀{P:List Str} {vs:List Value} {i:Nat} {m:Str->Option Value},P.Nodup->P[i]? =some x->vs[i]? =some v->kindOf x=some .local->
  bindL kindOf (P.zip vs) m x=some v
 |[],_,_,_,_,h,_,_=>by simp at h
 |_::_,[],_,_,_,_,h,_=>by simp at h
 |p::P,w::vs,0,m,nd,h1,h2,hk=>by
  simp at h1 h2;subst h1;subst h2
  show bindL kindOf ((p,w)::P.zip vs) m p=_
  unfold bindL
  rw[an7 fun v hv=>(List.nodup_cons.mp nd).1 (List.of_mem_zip hv).1,if_pos hk]
  simp
 |p::P,w::vs,i+1,m,nd,h1,h2,hk=>by
  show bindL kindOf ((p,w)::P.zip vs) m x=_
  unfold bindL
  exact an8 (i:=i) (List.nodup_cons.mp nd).2 (by simpa using h1) (by simpa using h2) hk
theorem aoJ{kindOf:Str->Option NameKind}{x:Str}{v:Value}:∀{P:List Str} {vs:List Value} {i:Nat} {m:Str->Option Value},P.Nodup->P[i]? =some x->vs[i]? =some v->kindOf x≠some .local->
  bindC kindOf (P.zip vs) m x=some v
 |[],_,_,_,_,h,_,_=>by simp at h
 |_::_,[],_,_,_,_,h,_=>by simp at h
 |p::P,w::vs,0,m,nd,h1,h2,hk=>by
  simp at h1 h2;subst h1;subst h2
  show bindC kindOf ((p,w)::P.zip vs) m p=_
  unfold bindC
  rw[aoG fun v hv=>(List.nodup_cons.mp nd).1 (List.of_mem_zip hv).1,if_neg hk]
  simp
 |p::P,w::vs,i+1,m,nd,h1,h2,hk=>by
  show bindC kindOf ((p,w)::P.zip vs) m x=_
  unfold bindC
  exact aoJ (i:=i) (List.nodup_cons.mp nd).2 (by simpa using h1) (by simpa using h2) hk
noncomputable def start(N:List Str)(vs:List V):St:=vs.map some++List.replicate (N.length-vs.length) none
noncomputable def adI(CX:CXT)(P:Program)(w:World)(K:FG)(mg:Str->Option Value)(base:Heap)(N:List Str)(qual:Str)(scope:Scope)(f:Addr)(cd:Value)(A:Around)(outer:List Env)(s:Shared)(H:Hp)(E:XK):Cx where
 prog:=P
 w:=w
 K:=K
 mg:=mg
 base:=base
 A:=A.deeper (envOfC qual scope s.heap.objs.size f cd)
 N:=N
 s₀:=s
 H₀:=H
 env:=envOfC qual scope s.heap.objs.size f cd
 outer:=outer
 stack:=envOfC qual scope s.heap.objs.size f cd::outer
 ex:=[]
 calm:=true
 fn:=fun _=>true
 pn:=[]
 xe:=fun e s'=>wpAny (model P w) (A.deeper (envOfC qual scope s.heap.objs.size f cd)) (leaving (envOfC qual scope s.heap.objs.size f cd) e) (fun _ s''=>CX outer H s E e s'') (fun e' s''=>CX outer H s E e' s'') s'
theorem aqM{sc:Scope}{n:Nat}{x:Str}(h:sc.names.lookup x=some .cell):∃c,(cellsFrom n sc.names []).lookup x=some c:=by
 have q:=PySem.W.cellsFrom_some sc.names n [] (.inl h)
 exact dD.mp q
theorem avW{CX:CXT}{P:Program}{w:World}{K:FG}{mg:Str->Option Value}{base:Heap}{N ps:List Str}{qual:Str}{scope:Scope}{f:Addr}{cd:Value}{A:Around}{outer:List Env}{s s1:Shared}{H:Hp}{E:XK}{us:List Value}{vs:List V}
  (S:FnScope N ps scope) (hd:A.handled=none) (e0:Env0 P w K mg base A outer s H) (hl:vs.length=ps.length) (r:Vals vs us)
  (x:InCallC s s.heap.objs.size (bindL (envOfC qual scope s.heap.objs.size f cd).kindOf (ps.zip us) fun _=>none) (cellsFrom (s.heap.objs.size+1) scope.names []) (bindC (envOfC qual scope s.heap.objs.size f cd).kindOf (ps.zip us) fun _=>none) s1):
  Inv (adI CX P w K mg base N qual scope f cd A outer s H E) [] (start N vs) H s1:=by
 have hpl:ps.length<=N.length:=by have:=congrArg List.length S.pre;rw[cW] at this;omega
 obtain⟨h1,tk,rfl,hk⟩:=x.done
 have noA:∀b:Addr,b∉(adI CX P w K mg base N qual scope f cd A outer s H E).ex:=fun b z=>absurd (show b∈([]:List Addr) from z) (by simp)
 refine⟨⟨e0.mod,S.kind,rfl,rfl,aV _,fun y z c h1 h2=>?_,fun y hy=>?_,fun y c _ h=>?_,fun _=>hd,Around.frames_deeper e0.frames,.inr ⟨rfl,rfl⟩,fun b z=>absurd z (noA b),e0.bs,e0.bsz,fun b _ _=>noA b,fun b z=>absurd z (noA b),e0.funs,e0.frf⟩,
  rfl,e0.bare,Un.kept hk,⟨_,x.toInCall.ns,fun i y v h1 h2 h3=>?_⟩,fun y c h=>⟨_,x.cell y c h⟩,e0.hok.fresh (aV _),fun y c h=>?_,fun p hp=>absurd (show p∈([]:List (Addr×Obj)) from hp) (by simp),e0.hok.kept hk,?_⟩
 ·exact name_of_addr x.apart (PySem.mem_of_lookup h1) (PySem.mem_of_lookup h2)
 ·have hy:scope.names.lookup y=some .cell∨scope.names.lookup y=some .free:=hy
  rcases hy with hy | hy
  ·exact aqM hy
  ·exact absurd rfl (S.nofree _ (PySem.mem_of_lookup hy))
 ·exact Nat.le_of_lt (x.above y c (PySem.mem_of_lookup h))
 ·have hi:i<vs.length:=by
   unfold start at h2
   by_cases hi:i<vs.length
   ·exact hi
   ·rw[dN (by simpa using hi)] at h2
    rw[List.getElem?_replicate] at h2
    split at h2<;>cases h2
  have ha:vs[i]? =some v:=by
   unfold start at h2
   rw[List.getElem?_append_left (by simpa using hi),bE] at h2
   cases e:vs[i]? with
   |none=>rw[e] at h2;cases h2
   |some a=>rw[e] at h2;cases h2;rfl
  obtain⟨u,hu,rv⟩:=r.get ha
  have hp:ps[i]? =some y:=by
   rw[←S.pre,List.getElem?_take_of_lt (by omega)];exact h1
  have ndP:ps.Nodup:=by rw[←S.pre];exact S.nd.sublist (List.take_sublist _ _)
  refine⟨u,rv,?_⟩
  rcases S.par y (bW hp) with k | k
  ·exact .inl ⟨k,an8 ndP hp hu k⟩
  ·obtain⟨c,e⟩:=aqM (n:=s.heap.objs.size+1) k
   refine .inr ⟨.inl k,c,e,?_⟩
   have q:=x.cell y c e
   rw[aoJ ndP hp hu (by show scope.names.lookup y≠_;rw[k];decide)] at q
   exact q
 ·exact e0.hok.fresh (Nat.le_of_lt (x.above y c (PySem.mem_of_lookup h)))
 ·unfold start
  show _=N.length
  rw[aW,aU,cX]
  omega
theorem au9{CX:CXT}{P:Program}{w:World}{K:FG}{mg:Str->Option Value}{base:Heap}{k:Nat}{f:Addr}{name qual:Str}{params:Arguments}{body:List Stmt}{scope:Scope}{dV kV doc pm cdv ct oc:Value}{an od:Option Addr}
  {osl:Array (Option Value)} {N ps:List Str} {sp:Sp} (lk:K.lookup f=some ⟨oc,od,.func (PySem.W.fnOf name qual params body scope dV kV doc pm an cdv ct),osl⟩) (hcd:PySem.W.codeIn K cdv qual=true) (S:FnScope N ps scope)
  (len:∀vs H Q E,sp vs H Q E->vs.length=ps.length)
  (hbody:∀(A:Around) (outer:List Env) (s:Shared) (H:Hp) (vs:List V) (Q:VK) (E:XK),Room k (A.deeper (envOfC qual scope s.heap.objs.size f cdv))->sp vs H Q E->
   ∃t,PSs (adI CX P w K mg base N qual scope f cdv A outer s H E) body t/\t {nx:=fun _ H'=>Q .non H',rt:=Q} (start N vs) H):
  FnOk P w K mg base CX (k+1) f (PySem.W.fnOf name qual params body scope dV kV doc pm an cdv ct) ps sp:=by
 refine⟨len,fun A outer s H args us vs Q E hr e0 hb r hsp=>?_⟩
 have hl:=len _ _ _ _ hsp
 have KX:K.In s.heap:=e0.mod.kin.keeps fun b o e=>(e0.bs b o e).1
 have lim:s.heap.NoLimit:=e0.mod.nolimit.keeps fun b o e=>(e0.bs b o e).1
 have hkind:∀y∈ps.zip us,scope.names.lookup y.1=some .local∨(scope.names.lookup y.1=some .cell/\((cellsFrom (s.heap.objs.size+1) scope.names []).lookup y.1).isSome=true):=fun ⟨n,v⟩ hy=>by
  rcases S.par n (List.of_mem_zip hy).1 with q | q
  ·exact .inl q
  ·exact .inr ⟨q,PySem.W.cellsFrom_some _ _ _ (.inl q)⟩
 refine codeAny_call_function hr.depth (KX _ _ lk) rfl S.co S.gen rfl (PySem.W.codeRec_of KX hcd) (hb _ _ _ _ ?_)
 refine wpAny_newFunctionEnv_cells S.kind hkind fun env he s1 x=>?_
 subst he
 refine⟨lim.keeps x.toInCall.keep,codeAny_func ?_⟩
 obtain⟨t,ht,hq⟩:=hbody A outer s H vs Q E (hr.deeper _) hsp
 have I:Inv (adI CX P w K mg base N qual scope f cdv A outer s H E) [] (start N vs) H s1:=avW S hr.hd e0 hl r x
 refine dX (ht [] s1 (start N vs) H _ I hq) (fun fl s' hs=>?_) fun e s' hs=>hs
 have fin:∀{σ':St} {H':Hp} {v:V} {u:Value},Inv (adI CX P w K mg base N qual scope f cdv A outer s H E) [] σ' H' s'->RelV v u->Q v H'->CE outer P w H s Q u s':=
  fun {σ' H' v u} J rv q=>⟨v,H',J.os,J.bare,J.base,J.hok,rv,q⟩
 cases fl with
 |ret u=>
  obtain⟨v,σ',H',J,rv,q⟩:=hs
  exact fin J rv q
 |next=>
  obtain⟨σ',H',J,q⟩:=hs
  exact fin (v:=V.non) (u:=Value.none) J rfl q
 |brk=>
  obtain⟨_,_,_,q⟩:=hs
  exact False.elim q
 |cont=>
  obtain⟨_,_,_,q⟩:=hs
  exact False.elim q
section
variable{X:Cx}{x:Str}{p pos:Pos}{e:Expr}{es:List Expr}{t:TA}{id T:String}{r:List V->Hp->VK->Prop}
noncomputable def tCB(r:List V->Hp->VK->Prop)(t:TA):TE:=fun σ H Q=>t σ H fun vs H1=>r vs H1 Q
theorem azN(hc:ahO X (.builtin id) r)(hg:Gl X x)(hm:X.mg x=none)(hv:bootBuiltins x=some (.builtin id))(ha:PA X (e::es) t)(hn:x≠"__name__":=by decide)(hdb:(x==("__debug__":Str))=false:=by decide)
  (he:starEach (e::es) X.env=(false,eval e X.env)::starEach es X.env:=by rfl) (hpl:(backTo pos (starEach es X.env)).any (·.1)=false:=by rfl):PE X (.Call (.Name x p) (e::es) [] pos) (tCB r t):=by
 intro pins s σ H Q I h
 refine d9 (aeQ I hg hm hv ?_ hn hdb)
 exact PyProof.Rows.callWith_builtin1 (thn (ha pos pins s σ H _ I h) fun us s1 ⟨vs,H1,I1,r1,q1⟩=>hc pins s1 σ H1 vs us Q I1 r1 q1) he hpl
theorem avY(hc:ahO X (.type T) r)(hg:Gl X x)(hm:X.mg x=none)(hv:bootBuiltins x=some (.type T))(ha:PA X (e::es) t)(hn:x≠"__name__":=by decide)(hdb:(x==("__debug__":Str))=false:=by decide)
  (he:starEach (e::es) X.env=(false,eval e X.env)::starEach es X.env:=by rfl) (hpl:(backTo pos (starEach es X.env)).any (·.1)=false:=by rfl):PE X (.Call (.Name x p) (e::es) [] pos) (tCB r t):=by
 intro pins s σ H Q I h
 refine d9 (aeQ I hg hm hv ?_ hn hdb)
 exact PyProof.Rows.callWith_type1 (thn (ha pos pins s σ H _ I h) fun us s1 ⟨vs,H1,I1,r1,q1⟩=>hc pins s1 σ H1 vs us Q I1 r1 q1) he hpl
end
end L2
namespace HT
open PySem PyProof.Rows
section
open PySem.SeqAt
open PySem.AutoSeq1 (wpAny_loadPart')
open PySem.MeetsSeq PySem.MeetsSeq2 PySem.MeetsSeq3
end
section
variable{prog:Program}{w:World}{A:Around}{E:Value->Shared->Prop}{s:Shared}
noncomputable def sIx(n d:Nat):Option Int->Nat
 |none=>d
 |some v=>if v<0 then (v+(n:Int)).toNat else min v.toNat n
theorem sIx_le(n d:Nat)(hd:d<=n)(o:Option Int):sIx n d o<=n:=by
 cases o with
 |none=>exact hd
 |some v=>
  show (if v<0 then (v+(n:Int)).toNat else min v.toNat n)<=n
  by_cases hv:v<0
  ·rw[if_pos hv];omega
  ·rw[if_neg hv];exact Nat.min_le_right _ _
end
end HT
namespace L2
open PySem PySem.Spec PyProof.Rows
noncomputable abbrev TO:=St->Hp->(Option Int->Hp->Prop)->Prop
noncomputable def PO(X:Cx)(e:Option Expr)(t:TO):Prop:=
 ∀(pins:List (Addr×Obj)) (s:Shared) (σ:St) (H:Hp) (Q:Option Int->Hp->Prop),Inv X pins σ H s->t σ H Q->
  wpAny (model X.prog X.w) X.A (evalPart e X.env) (fun u s'=>∃o H',Inv X pins σ H' s'/\IsPart u o/\Q o H') X.xe s
noncomputable def auX:TO:=fun _ H Q=>Q none H
noncomputable def aCE(t:TE):TO:=fun σ H Q=>t σ H fun x H1=>∃i,x=.int i/\Q (some i) H1
section
variable{X:Cx}{e:Expr}{te:TE}{lo hi:Option Expr}{tl th:TO}{pos p2:Pos}
theorem aAQ:PO X none auX:=by
 intro pins s σ H Q I h
 rw[evalPart_none]
 exact eC ⟨none,H,I,.none,h⟩
theorem aAV(h:PE X e te):PO X (some e) (aCE te):=by
 intro pins s σ H Q I hw
 rw[evalPart_some]
 refine thn (h pins s σ H _ I hw) fun u s1 ⟨x,H1,I1,r1,q1⟩=>?_
 obtain⟨i,rfl,q⟩:=q1
 obtain⟨t,rfl⟩:=r1
 exact⟨some i,H1,I1,.int i t,q⟩
noncomputable def SlR(X:Cx)(r:V->Option Int->Option Int->Hp->VK->Prop):Prop:=
 ∀(pins:List (Addr×Obj)) (s:Shared) (σ:St) (H:Hp) (x:V) (v vl vu:Value) (lo hi:Option Int) (sl:Addr) (Q:VK),Inv X pins σ H s->RelV x v->s.heap.IsSliceOf sl vl vu .none->IsPart vl lo->IsPart vu hi->r x lo hi H Q->
  ∃T id,typeLookup (.type T) "__getitem__"=pure (some (.builtin id))/\s.TypeIs v T/\wpAny (model X.prog X.w) X.A (getItem v (.ref sl)) (EP X pins σ Q) X.xe s
noncomputable def tSl(r:V->Option Int->Option Int->Hp->VK->Prop)(te:TE)(tl th:TO):TE:=fun σ H Q=>te σ H fun x H1=>tl σ H1 fun l H2=>th σ H2 fun u H3=>r x l u H3 Q
theorem aw9{r:V->Option Int->Option Int->Hp->VK->Prop}(hr:SlR X r)(he:PE X e te)(hl:PO X lo tl)(hu:PO X hi th):PE X (.Subscript e (.Slice lo hi none p2) pos) (tSl r te tl th):=by
 intro pins s σ H Q I h
 refine Subscript_ (thn (he pins s σ H _ I h) fun v s1 ⟨x,H1,I1,r1,q1⟩=>?_)
 refine wpAny_Slice (thn (hl pins s1 σ H1 _ I1 q1) fun vl s2 ⟨l,H2,I2,pl,q2⟩=>thn (hu pins s2 σ H2 _ I2 q2) fun vu s3 ⟨u,H3,I3,pu,q3⟩=>?_)
 rw[evalPart_none]
 refine eC ?_
 have I4:Inv X pins σ H3 {s3 with heap:=s3.heap.push {cls:=.type "slice",data:=.fields #[vl,vu,.none]} }:=I3.kept (t':=s3.toks) fun b ob q=>bB _ q
 obtain⟨T,id,hT,ht,hg⟩:=hr pins {s3 with heap:=s3.heap.push {cls:=.type "slice",data:=.fields #[vl,vu,.none]} } σ H3 x v vl vu l u s3.heap.objs.size Q I4 r1 (Heap.IsSliceOf.new ..) pl pu q3
 show wpAny (model X.prog X.w) X.A (subscriptTail e (.Slice lo hi none p2) v (.ref s3.heap.objs.size)) (EP X pins σ Q) X.xe {s3 with heap:=s3.heap.push {cls:=.type "slice",data:=.fields #[vl,vu,.none]} }
 exact tail_any (ops:=[.ref s3.heap.objs.size,v]) ht hT hg (by with_unfolding_all rfl)
noncomputable def akY(xs:List V)(lo hi:Option Int):List V:=(xs.drop (HT.sIx xs.length 0 lo)).take (HT.sIx xs.length xs.length hi-HT.sIx xs.length 0 lo)
theorem aqU(xs:List V)(lo hi:Option Int):(akY xs lo hi).length<=xs.length:=by
 unfold akY
 rw[cW,List.length_drop]
 omega
end
noncomputable def ixN(n:Nat)(i:Int):Option Nat:=if 0<=i then (if i<n then some i.toNat else none) else if -(n:Int)<=i then some (i+n).toNat else none
noncomputable def atI{α:Type}(xs:List α)(i:Int):Option α:=(ixN xs.length i).bind fun j=>xs[j]?
theorem avH{n:Nat}{i:Int}{j:Nat}(h:ixN n i=some j):seqIndex? i n=some j/\j<n/\ -(n:Int)<=i/\i<n:=by
 unfold ixN at h
 by_cases h0:0<=i
 ·rw[if_pos h0] at h
  by_cases h1:i<n
  ·rw[if_pos h1] at h
   have e:i.toNat=j:=bA h
   exact⟨by rw[seqIndex_of h0 h1,e],by omega,by omega,h1⟩
  ·rw[if_neg h1] at h;cases h
 ·rw[if_neg h0] at h
  by_cases h1: -(n:Int)<=i
  ·rw[if_pos h1] at h
   have e:(i+n).toNat=j:=bA h
   exact⟨by rw[seqIndex_neg (by omega) h1,e],by omega,h1,by omega⟩
  ·rw[if_neg h1] at h;cases h
theorem ap9{α:Type}{xs:List α}{i:Int}{v:α}(h:atI xs i=some v):∃j,seqIndex? i xs.length=some j/\xs[j]? =some v/\j<xs.length/\ -(xs.length:Int)<=i/\i<xs.length:=by
 unfold atI at h
 cases e:ixN xs.length i with
 |none=>rw[e] at h;cases h
 |some j=>
  rw[e] at h
  obtain⟨h1,h2,h3,h4⟩:=avH e
  exact⟨j,h1,h,h2,h3,h4⟩
theorem adU{α:Type}{xs:List α}{j:Nat}{v:α}(h:xs[j]? =some v):atI xs (j:Int)=some v:=by
 have hj:j<xs.length:=(cE.mp h).1
 have e:ixN xs.length (j:Int)=some j:=by
  unfold ixN
  rw[if_pos (by omega),if_pos (by omega)];simp
 unfold atI;rw[e];exact h
theorem ayO{α:Type}(xs:List α)(v:α):atI (xs++[v]) (-1)=some v:=by
 have hl:(xs++[v]).length=xs.length+1:=by simp
 have e:ixN (xs++[v]).length (-1)=some xs.length:=by
  unfold ixN
  rw[hl,if_neg (by decide),if_pos (by omega)]
  congr 1
  omega
 unfold atI
 rw[e]
 show (xs++[v])[xs.length]? =some v
 simp
noncomputable def auM(b:Expr):Prop:=∀o i,subscripted b false o i=operate [o,i] (getItem o i)
noncomputable def IxR(X:Cx)(r:R2):Prop:=
 ∀(value slice:Expr) (pins:List (Addr×Obj)) (s:Shared) (σ:St) (H:Hp) (x y:V) (v u:Value) (Q:VK),Inv X pins σ H s->RelV x v->RelV y u->r x y H Q->
  subscripted slice false v u=operate [v,u] (getItem v u)->wpAny (model X.prog X.w) X.A (subscriptTail value slice v u) (EP X pins σ Q) X.xe s
noncomputable def MtR(X:Cx)(id:String)(r:V->List V->Hp->VK->Prop):Prop:=
 ∀(pins:List (Addr×Obj)) (s:Shared) (σ:St) (H:Hp) (x:V) (xs:List V) (v:Value) (us:List Value) (Q:VK),Inv X pins σ H s->RelV x v->Vals xs us->r x xs H Q->
  wpAny (model X.prog X.w) X.A (call (.builtin id) (v::us)) (EP X pins σ Q) X.xe s
section
variable{X:Cx}{a b:Expr}{ta tb:TE}{pos:Pos}
theorem aPB{r:R2}(hr:IxR X r)(ha:PE X a ta)(hb:PE X b tb)(hs:auM b):PE X (.Subscript a b pos) (tOp r ta tb):=by
 intro pins s σ H Q I h
 exact Subscript_ (aD5 ha hb I h fun v u s2 x y H2 I2 rx ry q=>hr a b pins s2 σ H2 x y v u Q I2 rx ry q (hs _ _))
noncomputable def aDG(K:FG):R2:=fun x y H Q=>∃p xs i v,x=.ref p/\y=.int i/\SqL K H p xs/\atI xs i=some v/\Q v H
noncomputable def aLY(K:FG):R2:=fun x y H Q=>∃p xs i v,x=.ref p/\y=.int i/\SqT K H p xs/\atI xs i=some v/\Q v H
noncomputable def rIxS:R2:=fun x y H Q=>∃z i c,x=.str z/\y=.int i/\z.length<=sizeLine/\atI z.cps.toList i=some c/\Q (.str ⟨#[c]⟩) H
theorem aAE:IxR X (aDG X.K):=by
 intro value slice pins s σ H x y v u Q I rx ry h hs
 obtain⟨p,xs,i,z,rfl,rfl,hq,he,q⟩:=h
 cases rx
 obtain⟨t,rfl⟩:=ry
 obtain⟨its,r,pl,hz⟩:=I.list hq
 obtain⟨j,h1,h2,h3,h4,h5⟩:=ap9 he
 obtain⟨w,ew,rw'⟩:=r.get h2
 have hl:=r.length
 have hn:=ah0
 have fin:EP X pins σ Q w s:=⟨z,H,I,rw',q⟩
 by_cases h0:0<=i
 ·have hj:i.toNat=j:=by
   rw[seqIndex_of h0 h5] at h1
   exact bA h1
  exact item_listR pl.isList h0 (by omega) (by rw[hj];simpa using ew) fin hs
 ·have hj:(i+(its.toArray.size:Int)).toNat=j:=by
   rw[seqIndex_neg (by omega) h4] at h1
   rw[bG,←hl]
   exact bA h1
  exact subscriptTail_builtinR (x:=w) pl.isList.typeIs slot_list_getitem.lookup
   (wpAny_getItem_list_neg (Q:=fun r s'=>r=w/\EP X pins σ Q r s') pl.isList (by omega) (by rw[bG]<;>omega) (by omega) (by rw[hj];simpa using ew) ⟨rfl,fin⟩) hs
theorem aDE:IxR X (aLY X.K):=by
 intro value slice pins s σ H x y v u Q I rx ry h hs
 obtain⟨p,xs,i,z,rfl,rfl,hq,he,q⟩:=h
 cases rx
 obtain⟨t,rfl⟩:=ry
 obtain⟨its,r,pl,hz⟩:=I.tuple hq
 obtain⟨j,h1,h2,h3,h4,h5⟩:=ap9 he
 obtain⟨w,ew,rw'⟩:=r.get h2
 have hl:=r.length
 have hn:=ah0
 have fin:EP X pins σ Q w s:=⟨z,H,I,rw',q⟩
 exact subscriptTail_builtinR (x:=w) pl.typeIs slot_tuple_getitem.lookup
  (getItem_tuple (j:=j) (Q:=fun r s'=>r=w/\EP X pins σ Q r s') pl (by omega) (by omega) (by rw[bG,←hl];exact h1) (by simpa using ew) ⟨rfl,fin⟩) hs
theorem aEM:IxR X rIxS:=by
 intro value slice pins s σ H x y v u Q I rx ry h hs
 obtain⟨z,i,c,rfl,rfl,hz,he,q⟩:=h
 obtain⟨t,rfl⟩:=rx
 obtain⟨t',rfl⟩:=ry
 obtain⟨j,h1,h2,h3,h4,h5⟩:=ap9 he
 have hl:z.cps.toList.length=z.length:=by simp[Str.length]
 rw[hl] at h1 h4 h5
 have hn:=ah0
 exact tail_any (typeIs_str s z t) slot_str_getitem.lookup (getItem_str (c:=c) (by
  have e1:decide (i< -(2^63:Int))=false:=d8 (by omega)
  have e2:decide (i ≥ 2^63)=false:=d8 (by omega)
  rw[e1,e2,Bool.or_false]) (by rw[h1];simpa using h2) ⟨.str ⟨#[c]⟩,H,I.tok _,⟨_,rfl⟩,q⟩) hs
theorem atW(its:List Value)(n j:Nat)(u:Value):Obj.mapSeq (·.setIfInBounds j u) {cls:=.type "list",data:=.seq its.toArray n}={cls:=.type "list",data:=.seq (its.set j u).toArray n}:=by
 simp[Obj.mapSeq]
theorem Inv.lst{pins:List (Addr×Obj)}{σ:St}{H:Hp}{s:Shared}{p:Addr}{xs:List V}(I:Inv X pins σ H s)(h:H p=some (.lst xs)):
  ∃(its:List Value) (n:Nat),Vals xs its/\s.heap.get? p=some {cls:=.type "list",data:=.seq its.toArray n}/\xs.length<=sizeLine:=by
 obtain⟨z,its,n,r,e⟩:=I.hok p _ h
 exact⟨its,n,r,e,z⟩
theorem Inv.lstUpd{pins:List (Addr×Obj)}{σ:St}{H:Hp}{s:Shared}{p:Addr}{xs ys:List V}{its its':List Value}{n n':Nat}{f:Obj->Obj}(I:Inv X pins σ H s)(h:H p=some (.lst xs))
  (ho:s.heap.get? p=some {cls:=.type "list",data:=.seq its.toArray n}) (hf:f {cls:=.type "list",data:=.seq its.toArray n}={cls:=.type "list",data:=.seq its'.toArray n'}) (r:Vals ys its') (hz:ys.length<=sizeLine) (t:Nat):
  Inv X pins σ (upd H p (.lst ys)) {s with heap:=s.heap.update p f,toks:=t}:=by
 have e:(s.heap.update p f).get? p=some {cls:=.type "list",data:=.seq its'.toArray n'}:=by
  rw[Heap.get?_update_self f ho (by rw[hf]<;>rfl),hf]
 refine I.write (x:=p) (e:=p) (by rw[h];trivial) (.inl rfl) (fun b u hb q=>(cY _ _ (Ne.symm hb)).trans q) ⟨_,e⟩ ?_
 exact⟨hz,its',n',r,e⟩
noncomputable def aCQ:V->V->V->Hp->(Hp->Prop)->Prop:=fun o i v H Q=>∃p xs k j,o=.ref p/\i=.int k/\H p=some (.lst xs)/\ixN xs.length k=some j/\Q (upd H p (.lst (xs.set j v)))
theorem awV:aN5 X aCQ:=by
 intro pins s σ H o i v ov iv u Q I ro ri rv h
 obtain⟨p,xs,k,j,rfl,rfl,hp,hj,q⟩:=h
 cases ro
 obtain⟨t,rfl⟩:=ri
 obtain⟨its,n,r,ho,hz⟩:=I.lst hp
 obtain⟨h1,h2,h3,h4⟩:=avH hj
 have hl:=r.length
 have hn:=ah0
 have I':Inv X pins σ (upd H p (.lst (xs.set j v))) {s with heap:=s.heap.update p (Obj.mapSeq (·.setIfInBounds j u))}:=
  I.lstUpd hp ho (atW its n j u) (r.set rv j) (by rw[List.length_set];exact hz) s.toks
 by_cases h0:0<=k
 ·have hk:k.toNat=j:=by
   rw[seqIndex_of h0 h4] at h1
   exact bA h1
  exact PySem.W.ki_setAt ho h0 (by omega) (by rw[bG,←hl];exact h4) (by rw[hk];exact⟨_,I',q⟩)
 ·have hk:(k+(its.toArray.size:Int)).toNat=j:=by
   rw[seqIndex_neg (by omega) h3] at h1
   rw[bG,←hl]
   exact bA h1
  exact PySem.W.ki_setBack ho (by omega) (by rw[bG,←hl];exact h3) (by omega) (by rw[hk];exact⟨_,I',q⟩)
theorem agY(lo hi:Option Int)(n:Nat):(sliceBounds lo hi none n).1=((HT.sIx n 0 lo:Nat):Int)/\(sliceBounds lo hi none n).2.1=((HT.sIx n n hi:Nat):Int)/\(sliceBounds lo hi none n).2.2=1:=by
 refine⟨?_,?_,rfl⟩
 ·cases lo with
  |none=>simp[sliceBounds,HT.sIx]
  |some i=>
   simp only[sliceBounds,HT.sIx,Option.getD_none,show (1:Int)>0 by decide,if_true]
   by_cases h:i<0
   ·simp only[h,if_true]<;>omega
   ·simp only[h,if_false]<;>omega
 ·cases hi with
  |none=>simp[sliceBounds,HT.sIx]
  |some i=>
   simp only[sliceBounds,HT.sIx,Option.getD_none,show (1:Int)>0 by decide,if_true]
   by_cases h:i<0
   ·simp only[h,if_true]<;>omega
   ·simp only[h,if_false]<;>omega
theorem anO(its:List Value)(lo hi:Option Int):slicePick its.toArray lo hi none=((its.drop (HT.sIx its.length 0 lo)).take (HT.sIx its.length its.length hi-HT.sIx its.length 0 lo)).toArray:=by
 obtain⟨h1,h2,h3⟩:=agY lo hi its.toArray.size
 unfold slicePick
 rw[h1,h2,h3]
 simp only[sliceRange_one,pick_run,bG]<;>rfl
noncomputable def aGN(K:FG):V->Option Int->Option Int->Hp->VK->Prop:=fun x lo hi H Q=>∃a xs,x=.ref a/\SqL K H a xs/\∀p,H p=none->Q (.ref p) (upd H p (.lst (akY xs lo hi)))
theorem aA5:SlR X (aGN X.K):=by
 intro pins s σ H x v vl vu lo hi sl Q I rx hs pl pu h
 obtain⟨a,xs,rfl,hx,q⟩:=h
 cases rx
 obtain⟨its,r,ht,hz⟩:=I.list hx
 have hlen:=r.length
 refine⟨"list",_,slot_list_getitem.lookup,ht.isList.typeIs,?_⟩
 refine wpAny_getItem_list_slice ht.isList hs pl pu .none (by simp) ?_ (by rw[bG]<;>omega)
 rw[anO,←hlen]
 refine⟨.ref s.heap.objs.size,_,I.laid (t':=s.toks) (o:=.lst (akY xs lo hi)) (fun b ob q=>bB _ q) (aV _) ?_,rfl,q _ (I.hok.fresh (aV _))⟩
 exact⟨bT (aqU xs lo hi) hz,_,0,(r.drop (HT.sIx xs.length 0 lo)).take (HT.sIx xs.length xs.length hi-HT.sIx xs.length 0 lo),bL _ rfl⟩
noncomputable def agB:V->Bool
 |.non=>true
 |.bl _=>true
 |.int _=>true
 |.str _=>true
 |_=>false
noncomputable def eqV:V->V->Bool
 |.non,.non=>true
 |.bl a,.bl b=>a==b
 |.bl a,.int b=>(if a then 1 else 0)==b
 |.int a,.bl b=>a==(if b then 1 else 0)
 |.int a,.int b=>a==b
 |.str a,.str b=>a==b
 |_,_=>false
theorem aDR{A:Around}{s:Shared}{y x:V}{u v:Value}(ry:RelV y u)(rx:RelV x v)(fy:agB y=true)(fx:agB x=true):SeqAt.EqAt A s u v (eqV y x):=by
 cases y with
 |non=>
  cases ry
  cases x with
  |non=>cases rx;exact SeqAt.EqAt.same _
  |bl b=>cases rx;exact SeqAt.EqAt.none_bool b
  |int b=>obtain⟨t,rfl⟩:=rx;exact SeqAt.EqAt.none_int b t
  |str b=>obtain⟨t,rfl⟩:=rx;exact SeqAt.EqAt.none_str b t
  |_=>exact absurd (show false=true from fx) bC
 |bl a=>
  cases ry
  cases x with
  |non=>cases rx;exact SeqAt.EqAt.bool_none a
  |bl b=>cases rx;exact SeqAt.EqAt.bool_bool a b
  |int b=>obtain⟨t,rfl⟩:=rx;exact SeqAt.EqAt.bool_int a b t
  |str b=>obtain⟨t,rfl⟩:=rx;exact SeqAt.EqAt.bool_str a b t
  |_=>exact absurd (show false=true from fx) bC
 |int a=>
  obtain⟨t',rfl⟩:=ry
  cases x with
  |non=>cases rx;exact SeqAt.EqAt.int_none a t'
  |bl b=>cases rx;exact SeqAt.EqAt.int_bool a t' b
  |int b=>obtain⟨t,rfl⟩:=rx;exact SeqAt.EqAt.int_int a t' b t
  |str b=>obtain⟨t,rfl⟩:=rx;exact SeqAt.EqAt.int_str a t' b t
  |_=>exact absurd (show false=true from fx) bC
 |str a=>
  obtain⟨t',rfl⟩:=ry
  cases x with
  |non=>cases rx;exact SeqAt.EqAt.str_none a t'
  |bl b=>cases rx;exact SeqAt.EqAt.str_bool a t' b
  |int b=>obtain⟨t,rfl⟩:=rx;exact SeqAt.EqAt.str_int a t' b t
  |str b=>obtain⟨t,rfl⟩:=rx;exact SeqAt.EqAt.str_str a t' b t
  |_=>exact absurd (show false=true from fx) bC
 |_=>exact absurd (show false=true from fy) bC
noncomputable def eqU(x:V)(u:Value):Bool:=match u with
 |.none=>eqV .non x
 |.bool b=>eqV (.bl b) x
 |.int i _=>eqV (.int i) x
 |.str z _=>eqV (.str z) x
 |_=>false
theorem ax8{x y:V}{u:Value}(r:RelV y u)(f:agB y=true):eqU x u=eqV y x:=by
 cases y with
 |non=>cases r;rfl
 |bl b=>cases r;rfl
 |int i=>obtain⟨t,rfl⟩:=r;rfl
 |str z=>obtain⟨t,rfl⟩:=r;rfl
 |_=>exact absurd (show false=true from f) bC
theorem aoT{x:V}:∀{xs:List V} {us:List Value},Vals xs us->xs.all agB=true->us.any (eqU x)=xs.any fun y=>eqV y x
 |_,_,.nil,_=>rfl
 |y::xs,u::us,.cons r t,f=>by
  rw[List.all_cons,bX] at f
  rw[cG,cG,ax8 r f.1,aoT t f.2]
theorem alB{A:Around}{s:Shared}{x:V}{v:Value}(rx:RelV x v)(fx:agB x=true):∀{xs:List V} {us:List Value},Vals xs us->xs.all agB=true->∀u∈us,SeqAt.EqAt A s u v (eqU x u)
 |_,_,.nil,_=>fun u hu=>by cases hu
 |y::xs,u::us,.cons r t,f=>fun u' hu=>by
  rw[List.all_cons,bX] at f
  rcases aX.mp hu with rfl | hu
  ·rw[ax8 r f.1];exact aDR r rx f.1 fx
  ·exact alB rx fx t f.2 u' hu
noncomputable def inV(x:V)(xs:List V):Bool:=xs.any fun y=>eqV y x
noncomputable def rIn(K:FG)(neg:Bool):R2:=fun x y H Q=>∃p xs,y=.ref p/\(SqL K H p xs∨SqT K H p xs)/\agB x=true/\xs.all agB=true/\Q (.bl (if neg then !inV x xs else inV x xs)) H
theorem avZ:OpR X (compareOp .In) (rIn X.K false):=by
 intro pins s σ H x y v u Q I rx ry h
 obtain⟨p,xs,rfl,hq,fx,fs,q⟩:=h
 cases ry
 rcases hq with hq | hq
 ·obtain⟨its,r,pl,hz⟩:=I.list hq
  refine SeqAt.in_listAt (eqU x) pl.isList (fun w hw=>alB rx fx r fs w (by simpa using hw)) ⟨.bl _,H,I,rfl,?_⟩
  rw[show its.toArray.any (eqU x)=its.any (eqU x) by simp,aoT r fs]
  exact q
 ·obtain⟨its,r,pl,hz⟩:=I.tuple hq
  refine SeqAt.in_tupleAt (eqU x) pl (fun w hw=>alB rx fx r fs w (by simpa using hw)) ⟨.bl _,H,I,rfl,?_⟩
  rw[show its.toArray.any (eqU x)=its.any (eqU x) by simp,aoT r fs]
  exact q
theorem apT:ahO X (.builtin "len") (fun xs H Q=>∃p ys,xs=[.ref p]/\(SqL X.K H p ys∨SqT X.K H p ys)/\Q (.int ys.length) H):=by
 intro pins s σ H xs us Q I r h
 obtain⟨p,ys,rfl,hq,q⟩:=h
 obtain⟨u,rfl,rx⟩:=acK r
 cases rx
 have hn:=ah0
 rcases hq with hq | hq
 ·obtain⟨its,r',pl,hz⟩:=I.list hq
  have hlen:=r'.length
  exact Calls.call_len_list pl.isList (by simp only[bG]<;>omega) ⟨.int ys.length,H,I.tok _,⟨s.toks+1,by rw[bG,hlen]⟩,q⟩
 ·obtain⟨its,r',pl,hz⟩:=I.tuple hq
  have hlen:=r'.length
  exact len_tuple pl (by simp only[bG]<;>omega) ⟨.int ys.length,H,I.tok _,⟨s.toks+1,by rw[bG,hlen]⟩,q⟩
theorem apJ:ahO X (.builtin "len") (fun xs H Q=>∃z,xs=[.str z]/\z.length<=sizeLine/\Q (.int z.length) H):=by
 intro pins s σ H xs us Q I r h
 obtain⟨z,rfl,hz,q⟩:=h
 obtain⟨u,rfl,t,rfl⟩:=acK r
 have hn:=ah0
 exact len_str (by omega) ⟨.int z.length,H,I.tok _,⟨_,rfl⟩,q⟩
theorem am0:ahO X (.type "tuple") (fun xs H Q=>∃p ys,xs=[.ref p]/\((SqL X.K H p ys/\∀l,H l=none->Q (.ref l) (upd H l (.tup ys)))∨(SqT X.K H p ys/\Q (.ref p) H))):=by
 intro pins s σ H xs us Q I r h
 obtain⟨p,ys,rfl,h⟩:=h
 obtain⟨u,rfl,rx⟩:=acK r
 cases rx
 rcases h with ⟨hq,q⟩ | ⟨hq,q⟩
 ·obtain⟨its,r',pl,hz⟩:=I.list hq
  have hlen:=r'.length
  refine call_tuple_list pl.isList (fun h' kp=>?_) (by simp only[bG]<;>omega)
  have I1:Inv X pins σ H {s with heap:=h'}:=I.kept (t':=s.toks) kp
  have I2:Inv X pins σ (upd H h'.objs.size (.tup ys)) {s with heap:=h'.push {cls:=.type "tuple",data:=.seq its.toArray} }:=
   I1.laid (t':=s.toks) (fun b o e=>bB _ e) (aV _) (show ObjOk X.prog X.w _ _ _ (.tup ys) from ⟨hz,its,r',IsTup.new _ _⟩)
  exact⟨.ref h'.objs.size,_,I2,rfl,q _ (I1.hok.fresh (aV _))⟩
 ·obtain⟨its,r',pl,hz⟩:=I.tuple hq
  exact call_tuple_same pl ⟨.ref p,H,I,rfl,q⟩
noncomputable def tyV(K:FG)(T:String)(x:V)(H:Hp):Prop:=match x with
 |.str _=>T="str"
 |.int _=>T="int"
 |.ref p=>(T="list"/\∃xs,SqL K H p xs)∨(T="tuple"/\∃o,K.lookup p=some o/\o.cls=.type "tuple"/\o.dict=none)∨
   (T="dict"/\((∃kvs,H p=some (.dK kvs))∨∃kvs,H p=some (.dT kvs)))∨(T="set"/\∃S n,H p=some (.set S n))
 |_=>False
theorem ax9{pins:List (Addr×Obj)}{σ:St}{H:Hp}{s:Shared}{T:String}{x:V}{v:Value}(I:Inv X pins σ H s)(r:RelV x v)(ty:tyV X.K T x H):
  s.TypeIs v T/\∀a,v=.ref a->∃ob,s.heap.get? a=some ob/\ob.dict=none:=by
 cases x with
 |str z=>
  obtain⟨t,rfl⟩:=r
  cases (show T="str" from ty)
  exact⟨typeIs_str s z t,fun _ e=>nomatch e⟩
 |int i=>
  obtain⟨t,rfl⟩:=r
  cases (show T="int" from ty)
  exact⟨typeIs_int s i t,fun _ e=>nomatch e⟩
 |ref p=>
  cases r
  rcases ty with ⟨rfl,xs,hq⟩ | ⟨rfl,o,hk,hc,hd⟩ | ⟨rfl,hk⟩ | ⟨rfl,S,n,hk⟩
  ·obtain⟨its,_,pl,_⟩:=I.list hq
   refine⟨pl.isList.typeIs,fun a e=>?_⟩
   cases e
   obtain⟨o,n,e,c,hd,_⟩:=pl
   exact⟨o,e,hd⟩
  ·refine⟨⟨o,I.kIn p o hk,hc⟩,fun a e=>?_⟩
   cases e
   exact⟨o,I.kIn _ o hk,hd⟩
  ·have z:∃o,s.heap.get? p=some o/\o.ExactDict:=by
    rcases hk with ⟨kvs,hk⟩ | ⟨kvs,hk⟩
    ·obtain⟨_,_,_,_,o,_,_,e,ex,_⟩:=I.hok p _ hk
     exact⟨o,e,ex⟩
    ·obtain⟨_,_,_,_,o,_,_,e,ex,_⟩:=I.hok p _ hk
     exact⟨o,e,ex⟩
   obtain⟨o,e,ex⟩:=z
   refine⟨⟨o,e,ex.1⟩,fun a e2=>?_⟩
   cases e2
   exact⟨o,e,ex.2.1⟩
  ·obtain⟨o,_,_,_,e,ex,_⟩:=I.hok p _ hk
   refine⟨⟨o,e,ex.1⟩,fun a e2=>?_⟩
   cases e2
   exact⟨o,e,ex.2.1⟩
 |_=>exact False.elim ty
noncomputable def aKO(K:FG)(T:String)(r:V->List V->Hp->VK->Prop)(to:TE):TE:=fun σ H Q=>to σ H fun x H1=>tyV K T x H1/\r x [] H1 Q
noncomputable def tBM(K:FG)(T:String)(r:V->List V->Hp->VK->Prop)(to:TE)(t:TA):TE:=fun σ H Q=>to σ H fun x H1=>tyV K T x H1/\t σ H1 fun xs H2=>r x xs H2 Q
variable{o e:Expr}{es:List Expr}{to:TE}{t:TA}{name:Str}{apos cpos:Pos}{T id:String}{r:V->List V->Hp->VK->Prop}
theorem aDT(pa:PlainAttrs T)(slot:Slot T name id)(hty:typeOf (.builtin id)=pure (.type "method_descriptor"))(hm:MtR X id r)(ho:PE X o to)
  (hbase:attributeBase o name X.env (eval o X.env)=eval o X.env:=by rfl) (hline:(apos.endLine==cpos.line)=true:=by rfl):PE X (.Call (.Attribute o name apos) [] [] cpos) (aKO X.K T r to):=by
 intro pins s σ H Q I h
 refine wpAny_Call_method0_late hbase hline (thn (ho pins s σ H _ I h) fun v s1 ⟨x,H1,I1,r1,ty,q1⟩=>?_)
 obtain⟨h1,h2⟩:=ax9 I1 r1 ty
 exact⟨T,id,pa,slot,hty,h1,h2,Calls.callWith_builtin rfl (PySem.evalArgs_none (hm pins s1 σ H1 x [] v [] Q I1 r1 .nil q1))⟩
theorem aqX(pa:PlainAttrs T)(slot:Slot T name id)(hty:typeOf (.builtin id)=pure (.type "method_descriptor"))(hm:MtR X id r)(ho:PE X o to)(ha:PA X (e::es) t)
  (hbase:attributeBase o name X.env (eval o X.env)=eval o X.env:=by rfl)
  (hfew:((backTo cpos (starEach (e::es) X.env)).all (fun x=> !x.1)&&(backToKw cpos (keywordEach [] X.env)).all (fun x=>x.1.isSome)
   &&decide ((e::es).length+([]:List Keyword).length+(if ([]:List Keyword).isEmpty then 0 else 1)<30))=true:=by rfl)
  (hline:(apos.endLine==cpos.line)=true:=by rfl) (hs:starEach (e::es) X.env=(false,eval e X.env)::starEach es X.env:=by rfl) (hplain:(backTo cpos (starEach es X.env)).any (·.1)=false:=by rfl):
  PE X (.Call (.Attribute o name apos) (e::es) [] cpos) (tBM X.K T r to t):=by
 intro pins s σ H Q I h
 refine wpAny_Call_method_late hbase hfew hline rfl (thn (ho pins s σ H _ I h) fun v s1 ⟨x,H1,I1,r1,ty,q1⟩=>?_)
 obtain⟨h1,h2⟩:=ax9 I1 r1 ty
 refine⟨T,id,pa,slot,hty,h1,h2,?_⟩
 have hA:=ha cpos pins s1 σ H1 _ I1 q1
 rw[hs] at hA ⊢
 refine Calls.callWith_builtin (by show (false||(backTo cpos (starEach es X.env)).any (·.1))=false;rw[hplain]<;>rfl) (Calls.evalArgs_plain ?_)
 exact thn hA fun us s2 ⟨vs,H2,I2,r2,q2⟩=>hm pins s2 σ H2 x vs v us Q I2 r1 r2 q2
end
noncomputable def MtM(X:Cx)(id:String)(r:V->List V->Hp->VK->Prop):Prop:=
 ∀(pins:List (Addr×Obj)) (s:Shared) (σ:St) (H:Hp) (x:V) (xs:List V) (v:Value) (us:List Value) (Q:VK),Inv X pins σ H s->RelV x v->Vals xs us->r x xs H Q->
  wpAny (model X.prog X.w) X.A (call (.builtin id) (v::us)) (EP X pins σ Q) X.xe s
theorem Vals.one:∀{x:V} {us:List Value},Vals [x] us->∃u,us=[u]/\RelV x u
 |_,_,.cons r .nil=>⟨_,rfl,r⟩
theorem Vals.rep{xs:List V}{us:List Value}(h:Vals xs us):∀k:Nat,Vals (List.replicate k xs).flatten (List.replicate k us).flatten
 |0=>.nil
 |k+1=>by
  rw[dE,dE,cZ,cZ]
  exact Vals.append h (Vals.rep h k)
theorem anU(its:List Value):∀(k:Nat) (acc:List Value),
  List.foldl (fun x1 x2=>x1++x2) acc.toArray (List.replicate k its.toArray)=(acc++(List.replicate k its).flatten).toArray
 |0,acc=>by simp
 |k+1,acc=>by
  have e:acc.toArray++its.toArray=(acc++its).toArray:=by simp
  have e2:(acc++its)++(List.replicate k its).flatten=acc++(List.replicate (k+1) its).flatten:=by
   rw[dE,cZ,List.append_assoc]
  rw[←e2,←anU its k (acc++its),←e,dE,List.foldl_cons]
section
variable{X:Cx}{pins:List (Addr×Obj)}{σ:St}{H:Hp}{s:Shared}{l b:Addr}{xs ys zs:List V}
theorem Inv.lset{its its':List Value}{n:Nat}{f:Array Value->Array Value}{t':Nat}(I:Inv X pins σ H s)(hH:H l=some (.lst xs))
  (e:s.heap.get? l=some {cls:=.type "list",data:=.seq its.toArray n}) (hf:f its.toArray=its'.toArray) (hv:Vals ys its') (hz:ys.length<=sizeLine):
  Inv X pins σ (upd H l (.lst ys)) {s with heap:=s.heap.update l (Obj.mapSeq f),toks:=t'}:=by
 have q:=PySem.IsL.update e f
 rw[hf] at q
 refine I.write (x:=l) (e:=l) (by rw[hH];exact trivial) (.inl rfl) (fun b' u hb hu=>(cY s.heap (Obj.mapSeq f) (Ne.symm hb)).trans hu) ⟨_,q⟩ ?_
 exact⟨hz,its',_,hv,q⟩
theorem Inv.lnew{its:List Value}{t':Nat}(I:Inv X pins σ H s)(hv:Vals ys its)(hz:ys.length<=sizeLine):
  Inv X pins σ (upd H s.heap.objs.size (.lst ys)) {s with heap:=s.heap.push {cls:=.type "list",data:=.seq its.toArray},toks:=t'}:=
 I.laid (fun _ _ q=>bB _ q) (aV _) ⟨hz,its,0,hv,bL _ rfl⟩
theorem Inv.fresh(I:Inv X pins σ H s):H s.heap.objs.size=none:=I.hok.fresh (aV _)
theorem Inv.lstM(I:Inv X pins σ H s)(hH:H l=some (.lst xs)):xs.length<=sizeLine/\∃(its:List Value) (n:Nat),Vals xs its/\xs.length=its.length/\s.heap.get? l=some {cls:=.type "list",data:=.seq its.toArray n}:=by
 obtain⟨z,its,n,r,e⟩:=I.hok l _ hH
 exact⟨z,its,n,r,r.length,e⟩
theorem aw7{n:Nat}(h:n<=sizeLine):Builtin.List.listTooLong n=false:=by
 unfold Builtin.List.listTooLong
 exact d8 (by omega)
end
section
variable{X:Cx}
noncomputable def auI:V->List V->Hp->VK->Prop:=fun x vs H Q=>∃l xs y,x=.ref l/\vs=[y]/\H l=some (.lst xs)/\xs.length<sizeLine/\Q .non (upd H l (.lst (xs++[y])))
theorem aiK:MtM X "list.append" auI:=by
 intro pins s σ H x vs v us Q I rx rv h
 obtain⟨l,xs,y,rfl,rfl,hH,hz,q⟩:=h
 cases rx
 obtain⟨u,rfl,ru⟩:=rv.one
 obtain⟨z,its,n,r,hl,e⟩:=I.lstM hH
 refine call_meets F.slot_list_append ⟨_,e,rfl⟩ F.entry_list_append (F.args_list_append_2 _ _) (PySem.list_append l its.toArray n u (by rw[bG];omega)) ⟨e,?_⟩
 refine⟨.non,_,I.lset (its':=its++[u]) hH e (by simp) (r.append (.cons ru .nil)) ?_,rfl,q⟩
 rw[aW,b8]
 omega
noncomputable def aH9:R2:=fun x y H Q=>∃l b xs zs,x=.ref l/\y=.ref b/\H l=some (.lst xs)/\H b=some (.lst zs)/\xs.length+zs.length<=sizeLine/\∀p,H p=none->Q (.ref p) (upd H p (.lst (xs++zs)))
theorem aDP:OpR X (binaryOp .Add) aH9:=by
 intro pins s σ H x y v u Q I rx ry h
 obtain⟨l,b,xs,zs,rfl,rfl,hH,hB,hz,q⟩:=h
 cases rx
 cases ry
 obtain⟨z,its,n,r,hl,e⟩:=I.lstM hH
 obtain⟨z2,its2,n2,r2,hl2,e2⟩:=I.lstM hB
 refine PySem.P.add_list e e2 ?_ (by rw[bG,bG];omega)
 have ea:its.toArray++its2.toArray=(its++its2).toArray:=by simp
 rw[ea]
 exact⟨.ref _,_,I.lnew (t':=s.toks) (r.append r2) (by rw[aW];omega),rfl,q _ I.fresh⟩
noncomputable def aM5:R2:=fun x y H Q=>∃l k xs,x=.ref l/\y=.int k/\H l=some (.lst xs)/\ -(2^63)<=k/\k<2^63/\xs.length*k.toNat<=sizeLine/\
 ∀p,H p=none->Q (.ref p) (upd H p (.lst (List.replicate k.toNat xs).flatten))
theorem aA6{α:Type}(xs:List α)(k:Nat):(List.replicate k xs).flatten.length=k*xs.length:=by
 induction k with
 |zero=>simp
 |succ k ih=>rw[dE,cZ,aW,ih,Nat.succ_mul,Nat.add_comm]
theorem aFD:OpR X (binaryOp .Mult) aM5:=by
 intro pins s σ H x y v u Q I rx ry h
 obtain⟨l,k,xs,rfl,rfl,hH,h1,h2,hz,q⟩:=h
 cases rx
 obtain⟨t,rfl⟩:=ry
 obtain⟨z,its,n,r,hl,e⟩:=I.lstM hH
 have hlen:its.toArray.size*k.toNat<=sizeLine:=by rw[bG,←hl];exact hz
 have hcap:¬its.toArray.size*k.toNat>(2^63-1) / 8:=by
  have:(sizeLine:Nat)<=(2^63-1) / 8:=by decide
  omega
 have hfit:¬(!Builtin.List.listFitsIndex k)=true:=by
  rw[fitsIndex_both h1 h2]
  exact bC
 have hlong:¬Builtin.List.listTooLong (its.toArray.size*k.toNat)=true:=by
  rw[aw7 hlen]
  exact bC
 have hnew:List.foldl (fun x1 x2=>x1++x2) #[] (List.replicate (if its.toArray.isEmpty=true then 0 else k.toNat) its.toArray)=(List.replicate k.toNat its).flatten.toArray:=by
  have f0:∀m:Nat,List.foldl (fun x1 x2=>x1++x2) #[] (List.replicate m its.toArray)=(List.replicate m its).flatten.toArray:=fun m=>by
   have:=anU its m []
   rw[List.nil_append] at this
   exact this
  rw[f0]
  cases its with
  |nil=>simp
  |cons a r'=>rw[if_neg (by simp)]
 refine wpAny_binaryOp_repeat_ref (T:="list") (U:="int") (by decide) ⟨_,e,rfl⟩ (fun s'=>typeIs_int s' k t) noFill_list_mul F.fills_int_mul F.slot_int_rmul repeat_list F.slot_int_index.lookup
  (call_meets F.slot_int_rmul (typeIs_int s k t) F.entry_int_rmul (F.args_int_rmul_2 _ _) (int___rmul___int_list k t l its.toArray n)
   ⟨e,rfl,⟨_,e,rfl⟩,call_meets F.slot_list_mul ⟨_,e,rfl⟩ F.entry_list_mul (F.args_list_mul_2 _ _) (AutoListH.list___mul___list_int_3 l its.toArray n k t hfit hcap hlong) ⟨e,?_⟩⟩)
 rw[hnew]
 exact⟨.ref _,_,I.lnew (t':=s.toks) (r.rep k.toNat) (by rw[aA6,Nat.mul_comm];exact hz),rfl,q _ I.fresh⟩
end
section
variable{prog:Program}{w:World}{A:Around}{E:Value->Shared->Prop}{s:Shared}
end
section
variable{X:Cx}
end
end L2
namespace Att
open PySem PySem.W PySem.Calls PyProof.Rows
theorem ajW{P:Params}{h:Heap}:∀(ns:List Int) (vs:List Value),WellAll P h vs (ns.map WData.int)->IntsAre vs ns:=by
 intro ns
 induction ns with
 |nil=>
  intro vs w
  rw[List.map_nil] at w
  cases w
  exact .nil
 |cons n ns ih=>
  intro vs w
  rw[List.map_cons] at w
  cases w with
  |cons a b=>
   cases a
   exact .cons _ _ (ih _ b)
theorem av9{l:OpenLaw}{n:Nat}(hn:l.most=some n){P:Params}{h:Heap}{args:List WData}{vals:List Value}
  (hpre:l.row.toRowW.claim.pre args=true) (hwl:WellAll P h vals args):
  ∃a vs ns,vals=[Value.ref a]/\args=[WData.list (ns.map WData.int)]/\h.get? a=some {cls:=.type "list",data:=.seq vs.toArray}/\IntsAre vs ns/\ns.length<=n:=by
 have hsh:WShape.hasAll [] args [.list .int]=true:=(pre_splitW hpre).1
 have hc:l.pre.holds [] {args:=args}=true:=(pre_splitW hpre).2
 obtain⟨d,r,rfl,h1,h2⟩:=hasAllW_cons hsh
 obtain rfl:=hasAllW_nil h2
 obtain⟨xs,rfl,h3⟩:=hasW_list h1
 obtain⟨ns,rfl⟩:=items_int h3
 have hlen:ns.length<=n:=by
  unfold OpenLaw.pre at hc
  have h4:(WTm.not (.lt (.lit (.int (n:Int))) (.len (.arg 0)))).holds [] {args:=[.list (ns.map .int)]}=true:=by
   have h4:=(holds_andW hc).1
   rw[hn] at h4
   exact h4
  have h5:=condW_of h4 (w_not (w_lt w_lit (w_len_list (w_arg rfl))))
  rw[List.length_map] at h5
  refine Nat.le_of_not_lt fun q=>?_
  have q':(n:Int)<((ns.length:Nat):Int):=by omega
  first
   |(rw[decide_eq_true q'] at h5;exact absurd h5 (by decide))
   |(simp at h5;omega)
 cases hwl with
 |cons w1 w2=>
  cases w2
  cases w1 with
  |list ho hall=>exact⟨_,_,ns,rfl,rfl,ho,ajW ns _ hall,hlen⟩
theorem awI(l:OpenLaw)(args:List WData):l.row.toRowW.claim.post args (.bool true) args=true:=
 postW_of (r:=l.row.toRowW) (X:=(true==true))
  (show WShape.has [] (.bool true) .bool=true by first | rfl | decide | simp[WShape.has,WShape.arms,WShape.armsAll])
  (show (WTm.eq .res (.lit (.bool true))).value [] {args:=args,res:=some (.bool true),after:=args}=some (.bool (true==true)) from w_eq_bool (w_res rfl) w_lit) rfl
theorem attach_call{l:OpenLaw}{n:Nat}{q:Program}{loose:List Str}{XP:(Str->Option Value)->Heap->Prop}{YP:World->Heap->Prop}{d:DefRec}
  (hn:l.most=some n) (hdf:d.params.defaults=[])
  (call:∀(w:World) (s₀ s₁:Shared) (mg mb:Str->Option Value) (fa:Addr) (o:Obj) (pm cd doc:Value) (a:Addr) (vs:List Value) (ns:List Int),
   Ground q loose [] XP w s₀ mg mb s₁.heap->YP w s₁.heap->
   s₁.heap.get? fa=some o->o.data=.func (docDef d.name d.params d.body d.scope pm cd doc)->s₁.heap.CodeRec cd d.name->mg d.name=some (.ref fa)->
   s₁.heap.get? a=some {cls:=.type "list",data:=.seq vs.toArray}->IntsAre vs ns->ns.length<=n->s₁.gens= #[]->
   codeAny (model l.prog w) callerA (.call (.ref fa) ⟨[.ref a],[]⟩) (fun r s'=>r=.ok (.ret (.bool true))/\OldK s₁.heap s'.heap/\s'.os=s₁.os/\AllBare s'.gens) s₁):
  WalkO q loose XP YP l.row.toRowW d [] (fun f vs=>PySem.call f vs):=by
 intro w s₀ s₁ mg mb G Y fa o pm cd doc dV kV ho hd hcd hD hmg hg args vals as hpre hlay hrd hwl hlo
 obtain rfl:dV=.none:=Dflts.none hD hdf
 obtain rfl:kV=.none:=Dflts.noKw hD
 obtain⟨a,vs,ns,rfl,rfl,hobj,hints,hlen⟩:=av9 hn hpre hwl
 refine enter_call (codeAny_mono (call w s₀ s₁ mg mb fa o pm cd doc a vs ns G Y ho (fd_plain hd) hcd hmg hobj hints hlen hg) fun r s' hq=>?_)
 obtain⟨rfl,h2,h3,h4⟩:=hq
 exact⟨.inl ⟨.bool true,.bool true,[],rfl,fun _=>rfl,.bool true,awI l _,fun _=>⟨List.Pairwise.nil,fun _ hm=>(nomatch hm)⟩⟩,h2,h3,h4⟩
section
variable{prog:Program}{w:World}{A:Around}{E:Value->Shared->Prop}{s:Shared}{K:Frag}
end
end Att
namespace L2
open PySem PySem.Spec PyProof.Rows
theorem an3:∀{vs:List Value} {ns:List Int},IntsAre vs ns->Vals (ns.map V.int) vs
 |_,_,.nil=>.nil
 |_,_,.cons n t h=>.cons ⟨t,rfl⟩ (an3 h)
noncomputable def aEQ(H:Hp):Prop:=∀b,H b=none∨∃o xs,H b=some (.frz o (.lst xs))
theorem ayJ{P:Program}{w:World}{K:FG}{mg mb:Str->Option Value}{CX:CXT}{k:Nat}{fa a:Addr}{fd:FuncData}{x:Str}{sp:Sp}{s₁:Shared}{vs:List Value}{ns:List Int}
  (KX:K.In s₁.heap) (hns:s₁.heap.Ns mainGlobals mg) (hb:s₁.heap.Ns builtinsNs mb) (hbb:∀x:Str,x≠"__name__"->mb x=bootBuiltins x) (hlim:s₁.heap.NoLimit) (hg:s₁.gens= #[])
  (ha:s₁.heap.get? a=some {cls:=.type "list",data:=.seq vs.toArray}) (hi:IntsAre vs ns) (hl:ns.length<=sizeLine) (hr:Room k callerA)
  (F:∀base:Heap,K.In base->base.Ns mainGlobals mg->FnOk P w K mg base CX k fa fd [x] sp) (hbind:∀(s:Shared) (u:Value),BindsTo s fd ⟨[u],[]⟩ [(x,u)])
  (hsp:∀H:Hp,aEQ H->SqL K H a (ns.map V.int)->sp [.ref a] H (fun v _=>v=.bl true) fun _ _ _=>False)
  (hCX:∀H e s',CX [] H s₁ (fun _ _ _=>False) e s'->False):
  codeAny (model P w) callerA (.call (.ref fa) ⟨[.ref a],[]⟩) (fun r s'=>r=.ok (.ret (.bool true))/\OldK s₁.heap s'.heap/\s'.os=s₁.os/\AllBare s'.gens) s₁:=by
 have rv:=an3 hi
 have lenV:=hi.length
 -- from an abstract heap in which nothing but the script may be tracked
 have core:∀H:Hp,aEQ H->SqL K H a (ns.map V.int)->HOk P w H s₁.heap->(∀b,H b≠none->b=a)->(H a≠none->K.lookup a=none)->
   codeAny (model P w) callerA (.call (.ref fa) ⟨[.ref a],[]⟩) (fun r s'=>r=.ok (.ret (.bool true))/\OldK s₁.heap s'.heap/\s'.os=s₁.os/\AllBare s'.gens) s₁:=by
  intro H hO hS hok hA hK
  have base_of:∀{b:Addr} {o:Obj},s₁.heap.get? b=some o->H b=none->(apU s₁.heap H).get? b=some o:=fun e n=>ayG e n
  have noA:∀{b:Addr} {o:Obj} {es:Array DictEntry} {ep:Nat},s₁.heap.get? b=some o->o.data=.dict es ep->H b=none:=fun {b o es ep} e d=>by
   cases q:H b with
   |none=>rfl
   |some u=>
    have e':b=a:=hA b (by rw[q];simp)
    subst e'
    rw[ha] at e;cases e
    have d':Data.seq vs.toArray _=Data.dict es ep:=d
    cases d'
  have nsK:∀{b:Addr} {m:Str->Option Value},s₁.heap.Ns b m->(apU s₁.heap H).Ns b m:=fun {b m} ⟨o,es,ep,e,d,r⟩=>⟨o,es,ep,base_of e (noA e d),d,r⟩
  have hKb:K.In (apU s₁.heap H):=fun b o e=>base_of (KX b o e) (by
   cases q:H b with
   |none=>rfl
   |some u=>
    have e':b=a:=hA b (by rw[q];simp)
    subst e'
    rw[hK (by rw[q];simp)] at e;cases e)
  have hM:Mod K mg (apU s₁.heap H):=⟨hKb,nsK hns,⟨mb,nsK hb,hbb⟩,let ⟨mc,h1,h2⟩:=hlim;⟨mc,nsK h1,h2⟩⟩
  have e0:Env0 P w K mg (apU s₁.heap H) callerA [] s₁ H:=⟨rfl,hM,fun b o e=>aB2 e,Nat.le_of_eq (avS _ _),trivial,fun b hb=>absurd (show b∈([]:List Addr) from hb) (by simp),hok,.of_eq hg⟩
  refine codeAny_mono ((F _ hKb (nsK hns)).run callerA [] s₁ H ⟨[.ref a],[]⟩ [.ref a] [.ref a] _ _ hr e0 (hbind s₁ (.ref a)) (.cons rfl .nil) (hsp H hO hS)) fun r s' h=>?_
  cases r with
  |error e=>exact (hCX H e s' h).elim
  |ok fl=>
   cases fl with
   |next=>exact False.elim h
   |brk=>exact False.elim h
   |cont=>exact False.elim h
   |ret u=>
    obtain⟨v,H',os,bare,un,hok',r',q⟩:=h
    have q':v=.bl true:=q
    subst q'
    obtain rfl:u=Value.bool true:=r'
    refine⟨rfl,OldK.of_keep fun b o e=>?_,os,bare⟩
    cases q:H b with
    |none=>exact un.keep b o e q (by intro z;exact absurd (show b∈([]:List Addr) from z) (by simp)) (by simp)
    |some u=>
     rcases hO b with z | ⟨ob,xs,z⟩
     ·rw[q] at z;cases z
     ·have z2:=un.frzs b ob _ z
      obtain⟨e1,_⟩:=hok b _ z
      obtain⟨e2,_⟩:=hok' b _ z2
      rw[e] at e1;cases e1
      exact e2
 cases hk:K.lookup a with
 |some o=>
  -- the script is one of the module's own objects
  have e:=KX a o hk
  rw[ha] at e
  cases e
  refine core (fun _=>none) (fun _=>.inl rfl) (.inr ⟨_,vs.toArray,_,hk,rfl,rfl,rfl,by rw[bG,lenV];exact hl,by simpa using rv⟩) (fun b u z=>by have z':(none:Option HO)=some u:=z;cases z') (fun b z=>absurd rfl z) fun z=>absurd rfl z
 |none=>
  refine core (fun b=>if b=a then some (.frz {cls:=.type "list",data:=.seq vs.toArray} (.lst (ns.map V.int))) else none) (fun b=>?_) (.inl (.inr ⟨{cls:=.type "list",data:=.seq vs.toArray},if_pos rfl⟩)) (fun b u z=>?_) (fun b z=>?_) fun _=>hk
  ·by_cases hb:b=a
   ·exact .inr ⟨_,_,if_pos hb⟩
   ·exact .inl (if_neg hb)
  ·by_cases hb:b=a
   ·have z':=(if_pos hb).symm.trans z
    cases z'
    subst hb
    exact⟨ha,by rw[aU];exact hl,vs,_,rv,ha⟩
   ·have z':=(if_neg hb).symm.trans z
    cases z'
  ·by_cases hb:b=a
   ·exact hb
   ·exact absurd (if_neg hb) z
theorem walk_of{l:PySem.W.OpenLaw}{n k:Nat}{q:Program}{loose:List Str}{XP:(Str->Option Value)->Heap->Prop}{YP:World->Heap->Prop}{d:DefRec}{K:Params->FG}{CX:World->CXT}{sp:World->Sp}{x:Str}
  (hn:l.most=some n) (hn2:n<=sizeLine) (hdf:d.params.defaults=[]) (hr:Room k callerA)
  (hY:∀(w:World) (h:Heap),YP w h->(K w.params).In h)
  (F:∀(w:World) (mg:Str->Option Value) (fa:Addr) (h:Heap),(K w.params).In h->h.Ns mainGlobals mg->mg d.name=some (.ref fa)->
   ∃fd:FuncData,(∀(s:Shared) (u:Value),BindsTo s fd ⟨[u],[]⟩ [(x,u)])/\
    ∀base:Heap,(K w.params).In base->base.Ns mainGlobals mg->FnOk l.prog w (K w.params) mg base (CX w) k fa fd [x] (sp w))
  (hsp:∀(w:World) (H:Hp) (a:Addr) (ns:List Int),ns.length<=n->aEQ H->SqL (K w.params) H a (ns.map V.int)->sp w [.ref a] H (fun v _=>v=.bl true) fun _ _ _=>False)
  (hCX:∀(w:World) (H:Hp) (s:Shared) (e:Value) (s':Shared),CX w [] H s (fun _ _ _=>False) e s'->False):
  PySem.W.WalkO q loose XP YP l.row.toRowW d [] (fun f vs=>PySem.call f vs):=by
 refine Att.attach_call hn hdf fun w s₀ s₁ mg mb fa o pm cd doc a vs ns G Y ho hd hcd hmg hobj hints hlen hg=>?_
 have KX:=hY w _ Y
 obtain⟨fd,hb,hF⟩:=F w mg fa _ KX G.T.g hmg
 exact ayJ KX G.T.g G.T.b G.T.builtins G.T.nolimit hg hobj hints (bT hlen hn2) hr hF hb (fun H hO hS=>hsp w H a ns hlen hO hS) fun H e s'=>hCX w H s₁ e s'
noncomputable def aaK(s:Stmt)(j:Nat):Stmt:=match s with
 |.ClassDef _ _ _ body _ _ _ _ _ _ _=>body.getD j (.Pass ⟨0,0,0,0⟩)
 |_=>.Pass ⟨0,0,0,0⟩
noncomputable def abR(s:Stmt):Arguments:=match s with
 |.FunctionDef _ a _ _ _ _ _ _ _ _=>a
 |_=>{posonlyargs:=[],args:=[],vararg:=none,kwonlyargs:=[],kw_defaults:=[],kwarg:=none,defaults:=[]}
noncomputable def aa4(s:Stmt):List Stmt:=match s with
 |.FunctionDef _ _ b _ _ _ _ _ _ _=>b
 |_=>[]
noncomputable def aaC(s:Stmt):Scope:=match s with
 |.FunctionDef _ _ _ _ _ _ sc _ _ _=>sc
 |_=>{kind:=.function,names:=[],isGenerator:=false,isCoroutine:=false}
noncomputable abbrev CX0:CXT:=fun _ _ _ _ _ _=>False
noncomputable abbrev E0:XK:=fun _ _ _=>False
theorem alM{X:Cx}:acH CX0 X E0:=fun _ _ _ _ _ _ _ h=>h.elim
structure Fun(K:FG)(x qual:Str)(st:Stmt)(f:Addr)(fd:FuncData):Prop where
 ex:∃(oc:Value) (od:Option Addr) (kV doc pm:Value) (an:Option Addr) (cdv ct:Value) (osl:Array (Option Value)),
  fd=PySem.W.fnOf x qual (abR st) (aa4 st) (aaC st) .none kV doc pm an cdv ct/\K.lookup f=some ⟨oc,od,.func fd,osl⟩/\PySem.W.codeIn K cdv qual=true
 kp:PySem.W.keepIn K (.ref f)=true
section
variable{P:Program}{w:World}{K:FG}{mg:Str->Option Value}{base:Heap}
theorem Fun.ok{x qual:Str}{st:Stmt}{f:Addr}{fd:FuncData}{N ps:List Str}{k:Nat}{sp:Sp}(F:Fun K x qual st f fd)(S:FnScope N ps (aaC st))(len:∀vs H Q E,sp vs H Q E->vs.length=ps.length)
  (hbody:∀(cdv:Value) (A:Around) (outer:List Env) (s:Shared) (H:Hp) (vs:List V) (Q:VK) (E:XK),Room k (A.deeper (envOfC qual (aaC st) s.heap.objs.size f cdv))->sp vs H Q E->
   ∃t,PSs (adI CX0 P w K mg base N qual (aaC st) f cdv A outer s H E).nox (aa4 st) t/\t {nx:=fun _ H'=>Q .non H',rt:=Q} (start N vs) H):FnOk P w K mg base CX0 (k+1) f fd ps sp:=by
 obtain⟨oc,od,kV,doc,pm,an,cdv,ct,osl,rfl,lk,hcd⟩:=F.ex
 refine au9 lk hcd S len fun A outer s H vs Q E hr hsp=>?_
 obtain⟨t,h,q⟩:=hbody cdv A outer s H vs Q E hr hsp
 exact⟨t,h.nox,q⟩
theorem Fun.binds{x qual:Str}{st:Stmt}{f:Addr}{fd:FuncData}{ps:List Str}(F:Fun K x qual st f fd)
  (h:∀(kV doc pm:Value) (an:Option Addr) (cdv ct:Value) (us:List Value),us.length=ps.length->bindArgs (PySem.W.fnOf x qual (abR st) (aa4 st) (aaC st) .none kV doc pm an cdv ct) ⟨us,[]⟩=pure (ps.zip us)):Binds K fd ps []:=by
 obtain⟨oc,od,kV,doc,pm,an,cdv,ct,osl,rfl,lk,hcd⟩:=F.ex
 exact .all (h kV doc pm an cdv ct)
theorem as5{x qual:Str}{st:Stmt}{f:Addr}{oc:Value}{od an:Option Addr}{osl:Array (Option Value)}{kV doc pm cdv ct:Value}(l:K.lookup f=some ⟨oc,od,.func (PySem.W.fnOf x qual (abR st) (aa4 st) (aaC st) .none kV doc pm an cdv ct),osl⟩)
  (c:PySem.W.codeIn K cdv qual=true) (k:PySem.W.keepIn K (.ref f)=true):Fun K x qual st f (PySem.W.fnOf x qual (abR st) (aa4 st) (aaC st) .none kV doc pm an cdv ct):=⟨⟨oc,od,kV,doc,pm,an,cdv,ct,osl,rfl,l,c⟩,k⟩
end
section
variable{X:Cx}
theorem pv(i:Nat){x:Str}{pos:Pos}(hN:X.N[i]? =some x:=by rfl)(hv:Vis X.env.scope x:=by first | exact Or.inl rfl | exact Or.inr (Or.inl rfl) | exact Or.inr (Or.inr rfl))(hd:(x==("__debug__":Str))=false:=by decide)
  (hcd:(x==("__classdict__":Str))=false:=by decide):PE X (.Name x pos) (awS i):=azT hN hv hd hcd
end
theorem abM{A B:Prop}(h:B):if false=true then A else B:=by
 rw[if_neg bC]
 exact h
theorem ab6{A B:Prop}(h:A):if true=true then A else B:=by
 rw[if_pos rfl]
 exact h
theorem aE8{c A B:Prop}[Decidable c](h1:c->A)(h2:¬c->B):if c then A else B:=by
 by_cases h:c
 ·rw[if_pos h]
  exact h1 h
 ·rw[if_neg h]
  exact h2 h
noncomputable def Same(H H':Hp):Prop:=∀b o,H b=some o->H' b=some o
theorem Same.refl(H:Hp):Same H H:=fun _ _ h=>h
theorem Same.trans{H H1 H2:Hp}(a:Same H H1)(b:Same H1 H2):Same H H2:=fun c o h=>b c o (a c o h)
theorem Same.seq{K:FG}{H H':Hp}{a:Addr}{xs:List V}(e:Same H H')(h:SqL K H a xs):SqL K H' a xs:=by
 rcases h with (h | ⟨o,h⟩) | h
 ·exact .inl (.inl (e _ _ h))
 ·exact .inl (.inr ⟨o,e _ _ h⟩)
 ·exact .inr h
section
variable{X:Cx}
end
structure Df(P:Program)(w:World)(K:FG)(mg:Str->Option Value)(base:Heap)(x:Str)(k:Nat)(ps:List Str)(sp:Sp):Prop where
 ex:∃(f:Addr) (fd:FuncData),FnOk P w K mg base CX0 k f fd ps sp/\Binds K fd ps []/\mg x=some (.ref f)/\PySem.W.keepIn K (.ref f)=true
structure Fn(K:FG)(mg:Str->Option Value)(x:Str)(st:Stmt)(ps:List Str):Prop where
 ex:∃(f:Addr) (fd:FuncData),Fun K x x st f fd/\Binds K fd ps []/\mg x=some (.ref f)
section
variable{P:Program}{w:World}{K:FG}{mg:Str->Option Value}{base:Heap}{x:Str}{st:Stmt}{ps N:List Str}{k:Nat}{sp:Sp}
theorem Fn.df(F:Fn K mg x st ps)(S:FnScope N ps (aaC st))(len:∀vs H Q E,sp vs H Q E->vs.length=ps.length)
  (hbody:∀(f:Addr) (cdv:Value) (A:Around) (outer:List Env) (s:Shared) (H:Hp) (vs:List V) (Q:VK) (E:XK),Room k (A.deeper (envOfC x (aaC st) s.heap.objs.size f cdv))->sp vs H Q E->
   ∃t,PSs (adI CX0 P w K mg base N x (aaC st) f cdv A outer s H E).nox (aa4 st) t/\t {nx:=fun _ H'=>Q .non H',rt:=Q} (start N vs) H):Df P w K mg base x (k+1) ps sp:=by
 obtain⟨f,fd,F1,hb,hm⟩:=F.ex
 exact⟨⟨f,fd,F1.ok S len (hbody f),hb,hm,F1.kp⟩⟩
theorem aaT{h:Heap}{f:Addr}{oc:Value}{od an:Option Addr}{osl:Array (Option Value)}{kV doc pm cdv ct:Value}(X:K.In h)(G:h.Ns mainGlobals mg)
  (a:PySem.W.nsIn K mainGlobals x=some (some (.ref f))) (l:K.lookup f=some ⟨oc,od,.func (PySem.W.fnOf x x (abR st) (aa4 st) (aaC st) .none kV doc pm an cdv ct),osl⟩)
  (c:PySem.W.codeIn K cdv x=true) (k:PySem.W.keepIn K (.ref f)=true)
  (hb:∀(kV doc pm:Value) (an:Option Addr) (cdv ct:Value) (us:List Value),us.length=ps.length->bindArgs (PySem.W.fnOf x x (abR st) (aa4 st) (aaC st) .none kV doc pm an cdv ct) ⟨us,[]⟩=pure (ps.zip us)):Fn K mg x st ps:=by
 have F:=as5 (st:=st) l c k
 exact⟨⟨f,_,F,F.binds (ps:=ps) hb,PySem.W.mg_of X G a⟩⟩
end
section
variable{X:Cx}
theorem ay3{x:Str}{k k':Nat}{ps:List Str}{sp:Sp}{e:Expr}{es:List Expr}{t:TA}{p pos:Pos}(D:Df X.prog X.w X.K X.mg X.base x k ps sp)(hr:Room k' X.A)(ha:PA X (e::es) t)(hk:k<=k':=by decide)(hg:Gl X x:=by rfl)
  (hdb:(x==("__debug__":Str))=false:=by decide) (he:starEach (e::es) X.env=(false,eval e X.env)::starEach es X.env:=by rfl) (hpl:(backTo pos (starEach es X.env)).any (·.1)=false:=by rfl):
  PE X (.Call (.Name x p) (e::es) [] pos) (ai2 sp [] E0 t):=by
 obtain⟨f,fd,F,hb,hm,kp⟩:=D.ex
 exact auU F (hr.mono hk) hg hm kp hb .nil alM ha hdb he hpl
end
theorem aaB{H:Hp}{p:Addr}(h:H p=none)(o:HO):Same H (upd H p o):=fun b u q=>by rw[aaE (aaN q h)];exact q
theorem int_eq{a b:Int}:(V.int a=V.int b)↔a=b:=⟨fun h=>V.int.inj h,fun h=>by rw[h]⟩
theorem ifI{a b:Int}{A B:Prop}(h1:a=b->A)(h2:¬a=b->B):if decide (V.int a=V.int b)=true then A else B:=
 aE8 (fun c=>h1 (int_eq.mp (d5 c))) (fun c=>h2 fun e=>c (d6 (int_eq.mpr e)))
theorem ifNI{a b:Int}{A B:Prop}(h1:¬a=b->A)(h2:a=b->B):if (!decide (V.int a=V.int b))=true then A else B:=by
 by_cases e:a=b
 ·rw[d6 (int_eq.mpr e)];exact abM (h2 e)
 ·rw[d8 fun q=>e (int_eq.mp q)];exact ab6 (h1 e)
theorem ifD{c:Prop}[Decidable c]{A B:Prop}(h1:c->A)(h2:¬c->B):if decide c=true then A else B:=
 aE8 (fun q=>h1 (d5 q)) (fun q=>h2 fun e=>q (d6 e))
theorem ifNe{a b:Int}{A B:Prop}(e:a=b)(h:B):if (!decide (V.int a=V.int b))=true then A else B:=by
 rw[d6 (int_eq.mpr e)];exact abM h
noncomputable def ar7:Expr->Option Int
 |.Constant (.int i) _ _=>some i
 |_=>none
noncomputable def aCW(is:List Int):TA:=fun _ H Q=>Q (is.map V.int) H
theorem au4{X:Cx}:∀{es:List Expr} (is:List Int),es.map ar7=is.map some->PA X es (aCW is)
 |[],[],_=>ac7
 |[],_::_,h=>by cases h
 |_::_,[],h=>by cases h
 |e::es,i::is,h=>by
  have h1:ar7 e=some i:=(List.cons.inj h).1
  have h2:es.map ar7=is.map some:=(List.cons.inj h).2
  obtain⟨j,pos,rfl⟩:∃j pos,e=.Constant (.int i) j pos:=by
   unfold ar7 at h1
   split at h1
   ·cases h1
    exact⟨_,_,rfl⟩
   ·cases h1
  exact acB as1 (au4 is h2)
structure Clos(X:Cx)(scope:Scope)(cl:List (Str×Addr)):Prop where
 is:closureFor scope X.env=pure cl
 sub:∀y c,cl.lookup y=some c->X.env.cells.lookup y=some c
 has:∀y,scope.names.lookup y=some .free->∃c,cl.lookup y=some c
 nocell:∀y∈scope.names,y.2≠ .cell
 kind:scope.kind=.function
 names:∀y∈scope.names,y.2=.local->scope.names.lookup y.1=some .local
noncomputable def aaQ(X:Cx)(N:List Str)(scope:Scope)(cl:List (Str×Addr))(C:Addr)(ex:List Addr)(pins:List (Addr×Obj))(s:Shared)(H:Hp):Cx:=
 {X with N:=N,s₀:=s,H₀:=H,env:=compEnvC scope cl C X.env,outer:=X.stack,stack:=X.stack,ex:=ex,fn:=fun _=>false,pn:=X.pn++pins,xe:=fun _ _=>False}
noncomputable def aa3(js:List Nat)(σ:St):St:=js.map fun j=>(σ[j]?).getD none
noncomputable def au2(ifs:List Expr)(env:Env):Sem Bool:=
 forIn ifs true fun c r=>if r=true then (do let ok ←isTrue c env (eval c env);pure (ForInStep.yield ok)) else pure (ForInStep.yield r)
noncomputable def PF(X:Cx)(ifs:List Expr)(t:TT):Prop:=
 ∀(pins:List (Addr×Obj)) (s:Shared) (σ:St) (H:Hp) (Q:Bool->Hp->Prop),Inv X pins σ H s->t σ H Q->
  wpAny (model X.prog X.w) X.A (au2 ifs X.env) (TP X pins σ Q) X.xe s
noncomputable def aIR:TT:=fun _ H Q=>Q true H
theorem aDL{X:Cx}:PF X [] aIR:=fun _ _ _ H _ I h=>wpAny_tests_nil ⟨H,I,h⟩
theorem aEN{X:Cx}{c:Expr}{t:TT}(h:PT X c t):PF X [c] t:=fun pins s σ H Q I q=>wpAny_tests_one (h pins s σ H Q I q)
noncomputable def ak4(J:It)(js:List Nat)(σ:St)(tt:TT)(te:TE)(Q:VK)(H1:Hp):Prop:=∀D,H1 D=none->∃W:Nat->Nat->Hp->Prop,(∃m,W 0 m (upd H1 D (.lst [])))/\∀i m H2,W i m H2->
 (J.stop i H2/\Q (.ref D) H2)∨(J.go i H2/\∀v H3,J.yld i H2 v H3->tt (some v::aa3 js σ) H3 fun b H4=>if b=true then
  te (some v::aa3 js σ) H4 fun y H5=>∃ys,H5 D=some (.lst ys)/\ys.length<sizeLine/\∃m',m'<m/\W (i+1) m' (upd H5 D (.lst (ys++[y])))
  else ∃m',m'<m/\W (i+1) m' H4)
noncomputable def ayM(wi:TI)(js:List Nat)(tt:TT)(te:TE):TE:=fun σ H Q=>wi σ H fun J H1=>ak4 J js σ tt te Q H1
noncomputable def ap7(env:Env)(n:Str)(k:NameKind):NameKind:=if (k==NameKind.free&&env.scope.kind== .function&&env.kindOf n==some .cell) then .cell else k
theorem az5{env:Env}{n:Str}{k:NameKind}:(if (k==NameKind.free&&env.scope.kind== .function&&env.kindOf n==some .cell) then (n,NameKind.cell) else (n,k))=(n,ap7 env n k):=by
 unfold ap7
 split<;>rfl
theorem afB{env:Env}:∀(names:List (Str×NameKind)) (x:Str),(relabel {kind:=.function,names:=names,isGenerator:=false,isCoroutine:=false} env).names.lookup x=(names.lookup x).map (ap7 env x)
 |[],_=>rfl
 |(n,k)::r,x=>by
  have ih:=afB (env:=env) r x
  unfold relabel at ih ⊢
  dsimp only at ih ⊢
  rw[bI]
  dsimp only
  rw[az5,c5,c5,ih]
  cases hx:x==n with
  |true=>
   have e:x=n:=by simpa using hx
   rw[e]
   rfl
  |false=>rfl
theorem adT{env:Env}(scope:Scope)(x:Str):(relabel scope env).names.lookup x=(scope.names.lookup x).map (ap7 env x):=afB scope.names x
theorem anW{env:Env}{x:Str}{o:Option NameKind}(hc:o≠some .cell)(h:o.map (ap7 env x)=some .cell∨o.map (ap7 env x)=some .free):o=some .free:=by
 cases o with
 |none=>rcases h with h | h<;>cases h
 |some k=>
  by_cases e:k=.free
  ·rw[e]
  ·have z:ap7 env x k=k:=by
    unfold ap7
    have e':(k==NameKind.free)=false:=by simpa using e
    rw[e']
    rfl
   rw[Option.map_some,z] at h
   rcases h with h | h
   ·exact absurd h hc
   ·exact h
theorem ahB{env:Env}{scope:Scope}{x:Str}(h:scope.names.lookup x=some .free):(relabel scope env).names.lookup x=some .cell∨(relabel scope env).names.lookup x=some .free:=by
 rw[adT,h,Option.map_some]
 unfold ap7
 split
 ·exact .inl rfl
 ·exact .inr rfl
section
variable{X:Cx}{elt iter:Expr}{x:Str}{px pos:Pos}{ifs:List Expr}{scope:Scope}{cl:List (Str×Addr)}{N':List Str}{js:List Nat}{tt:TT}{te:TE}
theorem atE{pins:List (Addr×Obj)}{σ:St}{H:Hp}{s s4:Shared}{fp:List Addr}{C:Addr}{m4:Str->Option Value}(hcl:Clos X scope cl)(hN:js.map (fun j=>X.N[j]?)=N'.map some)
  (hk:N'.all (fun y=>(X.env.kindOf y==some .cell)||(X.env.kindOf y==some .free))=true) (hf:N'.all (fun y=>scope.names.lookup y==some .free)=true)
  (I:Inv X pins σ H s) (hfp:∀b∈fp,adR X pins H b/\b<s.heap.objs.size) (hC:C=s.heap.objs.size) (ho:s4.os=s.os) (hg:s4.gens=s.gens) (hkeep:∀b o,s.heap.get? b=some o->s4.heap.get? b=some o) (hn:s4.heap.Ns C m4):
  Inv (aaQ X (x::N') scope cl C fp pins s H) [] (none::aa3 js σ) H s4:=by
 have hne:∀b o,s.heap.get? b=some o->b≠C:=fun b o e=>by rw[hC];exact bD (aY e)
 refine⟨⟨I.ok.mod,hcl.kind,I.ok.glob,I.ok.blt,Nat.le_of_eq hC.symm,fun y z c h1 h2=>I.ok.inj y z c (hcl.sub y c h1) (hcl.sub z c h2),fun y hy=>hcl.has y (anW (fun z=>hcl.nocell _ (PySem.mem_of_lookup z) rfl) (by rw[←adT];exact hy)),fun y c h _=>(nomatch h),I.ok.hd,I.ok.frames,.inl rfl,fun b hb=>⟨?_,fun y c e=>(hfp b hb).1.2.2.2.2.1 y c (hcl.sub y c e)⟩,
  I.bs,bT I.ok.bsz I.sz,fun b o e hb=>?_,fun b hb hz=>?_,I.stack,I.stkFree⟩,ho,by rw[hg];exact I.bare,Un.kept hkeep,⟨m4,hn,fun i y v h1 h2 h3=>?_⟩,fun y c e=>?_,?_,fun y c e=>I.freeC y c (hcl.sub y c e),fun p hp=>?_,I.hok.kept hkeep,?_⟩
 ·rw[hC];exact bD (hfp b hb).2
 ·rcases (hfp b hb).1.2.2.2.1 with z | z
  ·exact I.ok.noex b o e z
  ·exact absurd (a9 (aY e) (bT I.ok.bsz z)) (cA _)
 ·rcases aX.mp (I.stkSub b hz) with z | z
  ·exact (hfp b hb).1.2.1 z
  ·exact (hfp b hb).1.2.2.1 z
 ·match i,h1,h2 with
  |0,_,h2=>exact nomatch h2
  |i+1,h1,h2=>
   have h1:N'[i]? =some y:=h1
   have h2:(aa3 js σ)[i]? =some (some v):=h2
   have hy:y∈N':=bW h1
   have q:(js.map (fun j=>X.N[j]?))[i]? =some (some y):=by rw[hN,bE,h1];rfl
   rw[bE] at q
   cases ej:js[i]? with
   |none=>rw[ej] at q;cases q
   |some j=>
    rw[ej] at q
    have q:X.N[j]? =some y:=bA q
    unfold aa3 at h2
    rw[bE,ej] at h2
    have h2:(σ[j]?).getD none=some v:=bA h2
    have h2:σ[j]? =some (some v):=by
     cases e:σ[j]? with
     |none=>rw[e] at h2;cases h2
     |some o=>rw[e] at h2;exact congrArg some h2
    have kk:=b9.mp hk y hy
    have kk:X.env.kindOf y=some .cell∨X.env.kindOf y=some .free:=by simpa using kk
    have ff:=b9.mp hf y hy
    have ff:scope.names.lookup y=some .free:=by simpa using ff
    obtain⟨m,_,hl⟩:=I.loc
    obtain⟨u,r,l⟩:=hl j y v q h2 (by rcases kk with z | z;exact .inr (.inl z);exact .inr (.inr z))
    refine⟨u,r,.inr ⟨ahB ff,?_⟩⟩
    obtain⟨c,hc⟩:=hcl.has y ff
    rcases l with ⟨z,_⟩ | ⟨_,c',e',cell⟩
    ·rcases kk with k | k<;>(rw[k] at z;cases z)
    ·rw[hcl.sub y c hc] at e'
     cases e'
     exact⟨c,hc,cell.keeps hkeep⟩
 ·obtain⟨v,q⟩:=I.cell y c (hcl.sub y c e)
  exact⟨v,q.keeps hkeep⟩
 ·show H C=none
  rw[hC]
  exact I.hok.fresh (aV _)
 ·have hp:p∈X.pn++pins:=by
   have hp:p∈(X.pn++pins)++[]:=hp
   rwa [cS] at hp
  obtain⟨e,n,ne,nf,d⟩:=I.pin p hp
  refine⟨hkeep _ _ e,n,hne _ _ e,fun z=>?_,d⟩
  rcases aX.mp (I.stkSub p.1 z) with z | z
  ·exact ne z
  ·exact nf z
 ·show (aa3 js σ).length+1=N'.length+1
  have q:=congrArg List.length hN
  rw[aU,aU] at q
  unfold aa3
  rw[aU,q]
end
theorem amG{prog:Program}{w:World}{A:Around}{R:Result->Shared->Prop}{s:Shared}{elt tg iter:Expr}{ifs:List Expr}{scope:Scope}{pos:Pos}{it acc:Value}{env:Env}{EN:Value->Shared->Prop}
  (hEN:EN=notedBy (model prog w) A env fun e s'=>R (.error e) s') (B:Nat->Shared->Prop)
  (turn:∀n s,B n s->wpAny (model prog w) A (pyNext it) (fun r s₁=>match r with
   |none=>R (.ok .next) s₁
   |some v=>wpAny (model prog w) A (letOwnedTupleGo tg it v) (fun _ s₂=>wpAny (model prog w) A (assign tg env v) (fun _ s₃=>
     wpAny (model prog w) A (au2 ifs env) (fun ok s₄=>
      if ok=true then wpAny (model prog w) A (eval elt env) (fun z s₅=>wpAny (model prog w) A (call (.builtin "list.append") [acc,z]) (fun _ s₆=>∃m,m<n/\B m s₆) EN s₅) EN s₄
      else ∃m,m<n/\B m s₄) EN s₃) EN s₂) EN s₁) EN s) (n:Nat) (h:B n s):
  codeAny (model prog w) A (.compLoop (.ListComp elt [⟨tg,iter,ifs,0⟩] scope pos) 0 it acc env) R s:=by
 subst hEN
 refine codeAny_loop rfl B (fun n s hI=>?_) n h
 refine wpAny_noted (m:=compTurn (.ListComp elt [⟨tg,iter,ifs,0⟩] scope pos) 0 it acc env) ?_
 rw[compTurn_list]
 refine dW (dR (dW (dX (turn n s hI) (fun r s₁ h₁=>?_) fun _ _ z=>z)))
 cases r with
 |none=>exact eC h₁
 |some v=>
  refine dW (dX h₁ (fun _ s₂ h₂=>?_) fun _ _ z=>z)
  refine dW (dX h₂ (fun _ s₃ h₃=>?_) fun _ _ z=>z)
  refine dW (dX h₃ (fun ok s₄ h₄=>?_) fun _ _ z=>z)
  cases ok with
  |false=>exact eC ⟨rfl,h₄⟩
  |true=>
   refine dW (dW (dX h₄ (fun z s₅ h₅=>?_) fun _ _ q=>q))
   exact dW (dX h₅ (fun _ s₆ h₆=>eC (eC ⟨rfl,h₆⟩)) fun _ _ q=>q)
section
variable{X:Cx}{elt iter:Expr}{x:Str}{px pos:Pos}{ifs:List Expr}{scope:Scope}{cl:List (Str×Addr)}{N':List Str}{js:List Nat}{tt:TT}{te:TE}
theorem ay7{pins:List (Addr×Obj)}{σ σ':St}{H H':Hp}{s s':Shared}{fp:List Addr}{C:Addr}(I:Inv X pins σ H s)(hfp:∀b∈fp,adR X pins H b)(J:Inv (aaQ X (x::N') scope cl C fp pins s H) [] σ' H' s'):Inv X pins σ H' s':=
 I.call' (ch:=fp) J.os J.base J.hok J.bare fun b hb=>⟨(hfp b hb).2.2.2.1,(hfp b hb).2.1,(hfp b hb).2.2.2.2.1,(hfp b hb).2.2.2.2.2⟩
theorem amP{pins:List (Addr×Obj)}{σ:St}{H:Hp}{s:Shared}{Q:VK}{RR:Value->Addr->Result->Shared->Prop}{J:It}{fp:List Addr}{it:Addr}{tn:Nat->Heap->Prop}
  (hcl:Clos X scope cl) (hx:scope.names.lookup x=some .local) (hnd:(x::N').Nodup) (hN:js.map (fun j=>X.N[j]?)=N'.map some)
  (hk:N'.all (fun y=>(X.env.kindOf y==some .cell)||(X.env.kindOf y==some .free))=true) (hf:N'.all (fun y=>scope.names.lookup y==some .free)=true) (hc:X.calm=true)
  (ht:∀(C:Addr) (ex:List Addr) (pins:List (Addr×Obj)) (s:Shared) (H:Hp),PF (aaQ X (x::N') scope cl C ex pins s H) ifs tt)
  (he:∀(C:Addr) (ex:List Addr) (pins:List (Addr×Obj)) (s:Shared) (H:Hp),PE (aaQ X (x::N') scope cl C ex pins s H) elt te)
  (I:Inv X pins σ H s) (T:Turn X.prog X.w X.K (.Name x px) J fp it tn) (st:tn 0 s.heap) (hfp:∀b∈fp,adR X pins H b)
  (q:∀D,H D=none->∃W:Nat->Nat->Hp->Prop,(∃m,W 0 m (upd H D (.lst [])))/\∀i m H2,W i m H2->
   (J.stop i H2/\Q (.ref D) H2)∨(J.go i H2/\∀v H3,J.yld i H2 v H3->tt (some v::aa3 js σ) H3 fun b H4=>if b=true then
    te (some v::aa3 js σ) H4 fun y H5=>∃ys,H5 D=some (.lst ys)/\ys.length<sizeLine/\∃m',m'<m/\W (i+1) m' (upd H5 D (.lst (ys++[y])))
    else ∃m',m'<m/\W (i+1) m' H4))
  (hRR:∀(D C:Addr) (s':Shared) (H':Hp) (m:Str->Option Value),Inv X pins σ H' s'->H' C=none->C≠X.env.locals->X.s₀.heap.objs.size<=C->(∀y c,X.env.cells.lookup y=some c->c≠C)->(∀p∈X.pn++pins,p.1≠C)->s'.heap.Ns C m->Q (.ref D) H'->RR (.ref D) C (.ok .next) s'):
  wpAny (model X.prog X.w) X.A (newList []) (fun acc s₃=>wpAny (model X.prog X.w) X.A (newFunctionEnv scope X.env.globals cl [] X.env.qual none .none (some X.env)) (fun cenv s₄=>
   codeAny (model X.prog X.w) X.A (.compStart (.ListComp elt [⟨.Name x px,iter,ifs,0⟩] scope pos) 0 (.ref it) acc {cenv with scope:=relabel scope X.env}) (RR acc cenv.locals) s₄) X.xe s₃) X.xe s:=by
 refine wpAny_newObj_type ?_
 have hD:H s.heap.objs.size=none:=I.hok.fresh (aV _)
 have I3:Inv X pins σ (upd H s.heap.objs.size (.lst [])) {s with heap:=s.heap.push {cls:=.type "list",dict:=none,data:=.seq ([]:List Value).toArray} }:=I.lnew (its:=[]) (t':=s.toks) .nil (bM _)
 have hfp3:∀b∈fp,adR X pins (upd H s.heap.objs.size (.lst [])) b/\b<(s.heap.push {cls:=.type "list",dict:=none,data:=.seq ([]:List Value).toArray}).objs.size:=fun b hb=>by
  obtain⟨o,ho,_⟩:=T.obj 0 _ st b hb
  have hlt:=aY ho
  obtain⟨f0,f1⟩:=hfp b hb
  exact⟨⟨by rw[aaE (bD hlt)];exact f0,f1⟩,by rw[cR];exact Nat.lt_succ_of_lt hlt⟩
 have st3:tn 0 (s.heap.push {cls:=.type "list",dict:=none,data:=.seq ([]:List Value).toArray}):=T.keep _ _ _ st fun b _ o e=>bB _ e
 obtain⟨W,⟨m0,w0⟩,turn⟩:=q s.heap.objs.size hD
 generalize hs3:({s with heap:=s.heap.push {cls:=.type "list",dict:=none,data:=.seq ([]:List Value).toArray} }:Shared)=s3 at I3 ⊢
 have hh3:s.heap.push {cls:=.type "list",dict:=none,data:=.seq ([]:List Value).toArray}=s3.heap:=by rw[←hs3]
 rw[hh3] at hfp3 st3
 generalize s.heap.objs.size=D at I3 hfp3 w0 turn hD ⊢
 generalize upd H D (.lst [])=H3 at I3 hfp3 w0
 refine wpAny_newFunctionEnv hcl.nocell (by intro y hy;simp at hy) (fun h₁ hns₁ hsb₁=>?_) hcl.kind
 have hkeep:∀b o,s3.heap.get? b=some o->h₁.get? b=some o:=fun b o e=>hsb₁.extBut b o (bD (aY e)) (bB _ e)
 have J4:Inv (aaQ X (x::N') scope cl s3.heap.objs.size fp pins s3 H3) [] (none::aa3 js σ) H3 {s3 with heap:=h₁,toks:=s3.toks+([]:List (Str×Value)).length}:=
  atE hcl hN hk hf I3 hfp3 rfl rfl rfl hkeep hns₁
 have st4:tn 0 h₁:=T.keep _ _ _ st3 fun b _ o e=>hkeep b o e
 have cell':∀{s':Shared} {σ':St} {H':Hp},Inv (aaQ X (x::N') scope cl s3.heap.objs.size fp pins s3 H3) [] σ' H' s'->Q (.ref D) H'->RR (.ref D) s3.heap.objs.size (.ok .next) s':=fun {s' σ' H'} J hq=>by
  obtain⟨m,hn,_⟩:=J.loc
  refine hRR D _ s' H' m (ay7 I3 (fun b hb=>(hfp3 b hb).1) J) J.free (cF I3.lt) I3.sz (fun y c e z=>?_) (fun p hp z=>?_) hn hq
  ·obtain⟨v,k⟩:=I3.cell y c e
   exact absurd k.lt (by rw[z];exact cA _)
  ·exact absurd (aY (I3.pin p hp).1) (by rw[z];exact cA _)
 have fpX:∀{H':Hp},(∀b∈fp,H' b=none)->∀b∈fp,adR (aaQ X (x::N') scope cl s3.heap.objs.size fp pins s3 H3) [] H' b:=fun {H'} hn b hb=>by
  obtain⟨⟨f0,f1,f2,f3,f4,f5⟩,flt⟩:=hfp3 b hb
  refine⟨hn b hb,bD flt,fun z=>?_,.inl hb,fun y c e=>f4 y c (hcl.sub y c e),fun p hp=>?_⟩
  ·rcases aX.mp (I3.stkSub b z) with z | z
   ·exact f1 z
   ·exact f2 z
  ·have hp:p∈(X.pn++pins)++[]:=hp
   rw[cS] at hp
   exact f5 p hp
 have loop:∀s₄:Shared,s₄={s3 with heap:=h₁,toks:=s3.toks+([]:List (Str×Value)).length}->
   codeAny (model X.prog X.w) X.A (.compLoop (.ListComp elt [⟨.Name x px,iter,ifs,0⟩] scope pos) 0 (.ref it) (.ref D) (compEnvC scope cl s3.heap.objs.size X.env)) (RR (.ref D) s3.heap.objs.size) s₄:=by
  rintro s₄ rfl
  refine amG rfl (fun n s'=>∃i σ0 H',Inv (aaQ X (x::N') scope cl s3.heap.objs.size fp pins s3 H3) [] (σ0::aa3 js σ) H' s'/\tn i s'.heap/\(∀b∈fp,H' b=none)/\W i n H') ?_ m0 ⟨0,none,H3,J4,st4,fun b hb=>(hfp3 b hb).1.1,w0⟩
  rintro n s5 ⟨i,σ0,H5,J5,st5,fr5,w5⟩
  rcases turn i n H5 w5 with ⟨stop,qn⟩ | ⟨go,step⟩
  ·refine dX (T.done (aaQ X (x::N') scope cl s3.heap.objs.size fp pins s3 H3) rfl rfl rfl hc i [] s5 _ H5 (fun _ _=>False) J5 (fpX fr5) st5 stop) (fun r s6 ⟨hr,J6⟩=>?_) fun _ _ z=>z.elim
   subst hr
   exact cell' J6 qn
  ·refine dX (T.item (aaQ X (x::N') scope cl s3.heap.objs.size fp pins s3 H3) rfl rfl rfl hc i [] s5 _ H5 (fun _ _=>False) J5 (fpX fr5) st5 go) (fun r s6 ⟨u,hr,h6⟩=>?_) fun _ _ z=>z.elim
   subst hr
   refine dX h6 (fun _ s6' h6'=>?_) fun _ _ z=>z.elim
   obtain⟨v,H6,J6,r6,y6,st6,fr6⟩:=h6'
   clear h6
   have J6':=J6.pinned (fpX fr6) (T.obj _ _ st6)
   show wpAny _ _ (assign (.Name x px) _ u) _ _ _
   refine wpAny_assign_Name (alH (i:=0) J6' hnd rfl (.inl (lookup_relabel_local hx)) r6 (fun s7 J7=>?_) (.inr (lookup_relabel_local hx)))
   have J7:Inv (aaQ X (x::N') scope cl s3.heap.objs.size fp pins s3 H3) ([]++agN fp s6'.heap) (some v::aa3 js σ) H6 s7:=J7
   have again:∀{σ8:St} {H8:Hp} {s8:Shared},Inv (aaQ X (x::N') scope cl s3.heap.objs.size fp pins s3 H3) ([]++agN fp s6'.heap) σ8 H8 s8->tn (i+1) s8.heap/\∀b∈fp,H8 b=none:=fun {σ8 H8 s8} J8=>by
    refine⟨T.keep _ _ _ st6 fun b hb o e=>(J8.pin (b,o) (bY _ (bY _ (acE hb e)))).1,fun b hb=>?_⟩
    obtain⟨o,e,d⟩:=T.obj _ _ st6 b hb
    exact (J8.pin (b,o) (bY _ (bY _ (acE hb e)))).2.1
   refine dX (ht _ _ _ _ _ _ s7 _ H6 _ J7 (step v H6 y6)) (fun ok s8 ⟨H8,J8,q8⟩=>?_) fun _ _ z=>z.elim
   cases ok with
   |false=>
    obtain⟨m',hm,w8⟩:=(show ∃m',m'<n/\W (i+1) m' H8 from q8)
    obtain⟨a1,a2⟩:=again J8
    exact⟨m',hm,i+1,some v,H8,J8.unpinned,a1,a2,w8⟩
   |true=>
    refine dX (he _ _ _ _ _ _ s8 _ H8 _ J8 q8) (fun y s9 ⟨z,H9,J9,r9,ys,hys,hlen,m',hm,w9⟩=>?_) fun _ _ z=>z.elim
    refine dX (aiK (X:=aaQ X (x::N') scope cl s3.heap.objs.size fp pins s3 H3) _ s9 _ H9 (.ref D) [z] (.ref D) [y] (fun _ H10=>H10=upd H9 D (.lst (ys++[z]))) J9 rfl (.cons r9 .nil) ⟨D,ys,z,rfl,rfl,hys,hlen,rfl⟩) (fun _ s10 ⟨_,H10,J10,_,e10⟩=>?_) fun _ _ z=>z.elim
    subst e10
    obtain⟨a1,a2⟩:=again J10
    exact⟨m',hm,i+1,some v,_,J10.unpinned,a1,a2,w9⟩
 exact codeAny_compStart_list (loop _ rfl) (T.self _ 0 _ _ _ st4 (loop _ rfl))
theorem aBO{wi:TI}(hcl:Clos X scope cl)(hx:scope.names.lookup x=some .local)(hnd:(x::N').Nodup)(hN:js.map (fun j=>X.N[j]?)=N'.map some)
  (hk:N'.all (fun y=>(X.env.kindOf y==some .cell)||(X.env.kindOf y==some .free))=true) (hf:N'.all (fun y=>scope.names.lookup y==some .free)=true) (hc:X.calm=true)
  (hi:PI X (.Name x px) iter wi)
  (ht:∀(C:Addr) (ex:List Addr) (pins:List (Addr×Obj)) (s:Shared) (H:Hp),PF (aaQ X (x::N') scope cl C ex pins s H) ifs tt)
  (he:∀(C:Addr) (ex:List Addr) (pins:List (Addr×Obj)) (s:Shared) (H:Hp),PE (aaQ X (x::N') scope cl C ex pins s H) elt te)
  (hs:∀x,foldedSetIterable iter X.env x=pure x:=by intro _;rfl):
  PE X (.ListComp elt [⟨.Name x px,iter,ifs,0⟩] scope pos) (ayM wi js tt te):=by
 intro pins s σ H Q I h
 rw[eval_ListComp]
 refine dU (use:=none) rfl hs hcl.is hcl.kind hcl.names (thn (hi pins s σ H _ I h) fun xv s₁ h₁=>thn h₁ fun itv s₂ h₂=>?_)
 obtain⟨it,fp,tn,J,H2,rfl,I2,T,st,hfp,q⟩:=h₂
 refine amP (RR:=fun acc C=>compPost (model X.prog X.w) X.A X.xe none (EP X pins σ Q) acc C) hcl hx hnd hN hk hf hc ht he I2 T st hfp q ?_
 intro D C s' H' m I' hC0 hCL hCs hCc hCp hn hq
 refine⟨m,hn,fun h' sb=>⟨.ref D,H',?_,rfl,hq⟩⟩
 exact I'.turned (t':=s'.toks) (fun b o hb e=>(sb.2 b hb).trans e) hC0 hCL (.inr hCs) hCc hCp
end
theorem agP(env:Env):∀(names:List (Str×NameKind)) (acc:List (Str×Addr)),names.all (fun y=>y.2 != .free||(env.cells.lookup y.1).isSome)=true->
  ∃cl:List (Str×Addr),(forIn (m:=Sem) names acc fun x r=>(do
   let (name,kind):=x
   if kind== .free then do let c ←cellOf env name;pure (ForInStep.yield ((name,c)::r)) else pure (ForInStep.yield r)))=(pure cl:Sem _)/\
   (∀y c,cl.lookup y=some c->env.cells.lookup y=some c∨acc.lookup y=some c)/\(∀y,(∃c,acc.lookup y=some c)->∃c,cl.lookup y=some c)/\(∀y,(y,NameKind.free)∈names->∃c,cl.lookup y=some c)
 |[],acc,_=>⟨acc,rfl,fun _ _ h=>.inr h,fun _ h=>h,fun _ h=>nomatch h⟩
 |(n,k)::r,acc,h=>by
  rw[List.all_cons,bX] at h
  by_cases hk:k=.free
  ·subst hk
   have h1:(env.cells.lookup n).isSome=true:=by simpa using h.1
   obtain⟨c,hc⟩:=dD.mp h1
   obtain⟨cl,e,p1,p2,p3⟩:=agP env r ((n,c)::acc) h.2
   refine⟨cl,?_,fun y c' hy=>?_,fun y hy=>?_,fun y hy=>?_⟩
   ·rw[←e]
    have q:cellOf env n=(pure c:Sem Addr):=by unfold cellOf;rw[hc]
    rw[List.forIn_cons]
    dsimp only
    rw[if_pos (show (NameKind.free==NameKind.free)=true from rfl),q]
    rfl
   ·rcases p1 y c' hy with z | z
    ·exact .inl z
    ·rw[c5] at z
     cases hyn:y==n with
     |true=>
      rw[hyn] at z
      have e1:y=n:=by simpa using hyn
      have e2:c=c':=by simpa using z
      rw[e1,←e2]
      exact .inl hc
     |false=>
      rw[hyn] at z
      exact .inr z
   ·refine p2 y ?_
    rw[c5]
    cases hyn:y==n with
    |true=>exact⟨c,rfl⟩
    |false=>exact hy
   ·rcases aX.mp hy with z | z
    ·refine p2 y ⟨c,?_⟩
     have e1:y=n:=(Prod.mk.inj z).1
     rw[e1,c5]
     simp
    ·exact p3 y z
  ·obtain⟨cl,e,p1,p2,p3⟩:=agP env r acc h.2
   have hk':(k==NameKind.free)=false:=by simpa using hk
   refine⟨cl,?_,p1,p2,fun y hy=>?_⟩
   ·rw[←e]
    rw[List.forIn_cons]
    dsimp only
    rw[if_neg (by rw[hk'];exact bC)]
    rfl
   ·rcases aX.mp hy with z | z
    ·exact absurd (Prod.mk.inj z).2.symm hk
    ·exact p3 y z
theorem akR{X:Cx}{scope:Scope}(h:scope.names.all (fun y=>y.2 != .free||(X.env.cells.lookup y.1).isSome)=true)(h2:scope.names.all (fun y=>y.2 != .cell)=true)(h3:scope.kind=.function)
  (h4:scope.names.all (fun y=>y.2 != .local||scope.names.lookup y.1==some .local)=true):∃cl,Clos X scope cl:=by
 obtain⟨cl,e,p1,p2,p3⟩:=agP X.env scope.names [] h
 refine⟨cl,?_,fun y c hy=>?_,fun y hy=>p3 y (PySem.mem_of_lookup hy),fun y hy=>by simpa using b9.mp h2 y hy,h3,fun y hy hl=>?_⟩
 ·unfold closureFor
  exact Eq.trans (congrArg (fun t:Sem (List (Str×Addr))=>t >>=fun r=>(pure r:Sem (List (Str×Addr)))) e) rfl
 ·rcases p1 y c hy with z | z
  ·exact z
  ·simp at z
 ·have q:=b9.mp h4 y hy
  simpa [hl] using q
section
variable{js:List Nat}{σ:St}{tt:TT}{te:TE}{Q:VK}{H1:Hp}
theorem adV{lo:Int}{n:Nat}(R:Nat->List V->Prop)(hn:n<=sizeLine)(h0:R 0 [])
  (hs:∀(i:Nat) (l:List V) (D:Addr) (H2:Hp) (E:V->Hp->Prop) (F:Hp->Prop),i<n->R i l->H1 D=none->Same H1 H2->H2 D=some (.lst l)->(∀y H5,Same H2 H5->R (i+1) (l++[y])->E y H5)->(∀H4,Same H2 H4->R (i+1) l->F H4)->
   tt (some (.int (lo+i))::aa3 js σ) H2 fun b H4=>if b=true then te (some (.int (lo+i))::aa3 js σ) H4 E else F H4)
  (hd:∀(D:Addr) (H2:Hp) (l:List V),R n l->H1 D=none->Same H1 H2->H2 D=some (.lst l)->Q (.ref D) H2):ak4 (Itr lo n) js σ tt te Q H1:=by
 intro D hD
 refine⟨fun i m H2=>m=n-i/\i<=n/\Same H1 H2/\∃l,H2 D=some (.lst l)/\l.length<=i/\R i l,⟨n,by simp,bM _,aaB hD _,[],aaA,aV _,h0⟩,?_⟩
 rintro i m H2 ⟨rfl,hi,s2,l,h2,hll,hR⟩
 by_cases hlt:i<n
 ·refine .inr ⟨hlt,fun v H3 y=>?_⟩
  obtain⟨e,ev⟩:=y
  subst e ev
  refine hs i l D _ _ _ hlt hR hD s2 h2 (fun z H5 s5 r5=>?_) (fun H4 s4 r4=>?_)
  ·refine⟨l,s5 _ _ h2,cN hll (a9 hlt hn),n-(i+1),by omega,rfl,hlt,fun b o hb=>?_,l++[z],aaA,by rw[aW,b8];omega,r5⟩
   rw[aaE (aaN hb hD)]
   exact s5 _ _ (s2 _ _ hb)
  ·exact⟨n-(i+1),by omega,rfl,hlt,s2.trans s4,l,s4 _ _ h2,by omega,r4⟩
 ·have e:i=n:=by omega
  subst e
  exact .inl ⟨aV _,hd D H2 l hR hD s2 h2⟩
end
structure E(X:Cx)(e:Expr)(t:TE):Prop where
 h:PE X e t
structure T(X:Cx)(e:Expr)(t:TT):Prop where
 h:PT X e t
structure TW(X:Cx)(e:Expr)(t:TT):Prop where
 h:PW X e t
structure As(X:Cx)(es:List Expr)(t:TA):Prop where
 h:PA X es t
structure S(X:Cx)(st:Stmt)(t:TS):Prop where
 h:PS X st t
structure Ss(X:Cx)(sts:List Stmt)(t:TS):Prop where
 h:PSs X sts t
structure Il(X:Cx)(tg iter:Expr)(wi:TI):Prop where
 h:PI X tg iter wi
structure Gt(X:Cx)(tg:Expr)(t:TG):Prop where
 h:PG X tg t
structure Gts(X:Cx)(ts:List Expr)(t:TGs):Prop where
 h:PGs X ts t
structure Fs(X:Cx)(ifs:List Expr)(t:TT):Prop where
 h:PF X ifs t
structure Op2(X:Cx)(f:Value->Value->Sem Value)(r:R2):Prop where
 h:OpR X f r
structure Op1(X:Cx)(f:Value->Sem Value)(r:V->Hp->VK->Prop):Prop where
 h:UnR X f r
structure Cl1(X:Cx)(f:Value)(r:List V->Hp->VK->Prop):Prop where
 h:ahO X f r
structure Ixs(X:Cx)(r:R2):Prop where
 h:IxR X r
section
variable{X:Cx}{a b c e:Expr}{pos p:Pos}{ta tb tc te:TE}{t u:TT}{rest es:List Expr}{tA:TA}{op op':CmpOp}{r r':R2}{x:Str}
theorem v_(i:Nat)(hN:X.N[i]? =some x:=by rfl)(hv:Vis X.env.scope x:=by first | exact Or.inl rfl | exact Or.inr (Or.inl rfl) | exact Or.inr (Or.inr rfl))(hd:(x==("__debug__":Str))=false:=by decide)(hcd:(x==("__classdict__":Str))=false:=by decide):
  E X (.Name x pos) (awS i):=⟨azT hN hv hd hcd⟩
theorem eI{i j}:E X (.Constant (.int i) j pos) (tC (.int i)):=⟨as1⟩
theorem eB{k j}:E X (.Constant (.bool k) j pos) (tC (.bl k)):=⟨aKZ⟩
theorem eN{j}:E X (.Constant .none j pos) (tC .non):=⟨aDD⟩
theorem eS{z j}:E X (.Constant (.str z) j pos) (tC (.str z)):=⟨ayH⟩
theorem eGl{v:V}{w':Value}(hm:X.mg x=some w')(q:RelV v w')(hg:Gl X x:=by rfl)(hd:(x==("__debug__":Str))=false:=by decide):E X (.Name x pos) (tC v):=⟨aA1 hg hm q hd⟩
theorem eTy{n:String}(hm:X.mg x=none)(hv:bootBuiltins x=some (.type n))(hg:Gl X x:=by rfl)(hn:x≠"__name__":=by decide)(hd:(x==("__debug__":Str))=false:=by decide):E X (.Name x pos) (tC (.ty n)):=⟨aAW hg hm hv rfl hn hd⟩
theorem eOp{o:Operator}(ho:Op2 X (binaryOp o) r)(ha:E X a ta)(hb:E X b tb):E X (.BinOp a o b pos) (tOp r ta tb):=⟨aKN ho.h ha.h hb.h⟩
theorem eUn{o:UnaryOp}{r1:V->Hp->VK->Prop}(ho:Op1 X (unaryOp o) r1)(ha:E X a ta):E X (.UnaryOp o a pos) (tUn r1 ta):=⟨aND ho.h ha.h⟩
theorem aiQ(ho:Op2 X (compareOp op) r)(ha:E X a ta)(hb:E X b tb)(hm:behindInMarks op b=false:=by first | exact ayC _ | rfl):E X (.Compare a [op] [b] pos) (tOp r ta tb):=⟨aA0 ho.h ha.h hb.h hm⟩
theorem tCh(ho:Op2 X (compareOp op) r)(ho':Op2 X (compareOp op') r')(ha:E X a ta)(hb:E X b tb)(hc:E X c tc)(hm:lastMarks [op,op'] [b,c]=false:=by with_unfolding_all rfl):T X (.Compare a [op,op'] [b,c] pos) (auL (azQ r r' ta tb tc)):=⟨azO ho.h ho'.h ha.h hb.h hc.h hm⟩
theorem av3{o}(ha:E X a ta):E X (.BoolOp o [a] pos) ta:=⟨aFC ha.h⟩
theorem aDJ(ha:E X a ta)(hb:E X (.BoolOp .And (b::rest) pos) tb):E X (.BoolOp .And (a::b::rest) pos) (aCV ta tb):=⟨aE2 ha.h hb.h⟩
theorem eOr(ha:E X a ta)(hb:E X (.BoolOp .Or (b::rest) pos) tb):E X (.BoolOp .Or (a::b::rest) pos) (aLU ta tb):=⟨aJE ha.h hb.h⟩
theorem eIf(hc:T X c t)(ha:E X a ta)(hb:E X b tb):E X (.IfExp c a b pos) (tIf t ta tb):=⟨awT hc.h ha.h hb.h⟩
theorem tCm(ho:Op2 X (compareOp op) r)(ha:E X a ta)(hb:E X b tb)(hm:behindInMarks op b=false:=by first | exact ayC _ | rfl):T X (.Compare a [op] [b] pos) (auL (tOp r ta tb)):=⟨aBL ho.h ha.h hb.h hm⟩
theorem tNo(ha:T X a t):T X (.UnaryOp .Not a pos) (aL0 t):=⟨aD1 ha.h⟩
theorem tVa(ha:E X e te)(he:∀whole,isTrue e X.env whole=(do let v ←whole;standAt e.pos;holding [v] (truthy v)):=by intro _;rfl):T X e (L2.tB te):=⟨aEJ ha.h he⟩
theorem aw6(ha:T X a t):TW X (.BoolOp .And [a] pos) t:=⟨aBD ha.h⟩
theorem anM(ha:T X a t):TW X (.BoolOp .Or [a] pos) t:=⟨aET ha.h⟩
theorem aEV(ha:T X a t)(hb:TW X (.BoolOp .And (b::rest) pos) u):TW X (.BoolOp .And (a::b::rest) pos) (aKE t u):=⟨aFO ha.h hb.h⟩
theorem wOr(ha:T X a t)(hb:TW X (.BoolOp .Or (b::rest) pos) u):TW X (.BoolOp .Or (a::b::rest) pos) (tOr t u):=⟨aMO ha.h hb.h⟩
theorem tW(ha:TW X e t):T X e t:=⟨ha.h.pt⟩
theorem aN:As X [] adJ:=⟨ac7⟩
theorem aC(ha:E X e te)(hr:As X es tA)(hs:starEach (e::es) X.env=(false,eval e X.env)::starEach es X.env:=by rfl):As X (e::es) (ac0 te tA):=⟨acB ha.h hr.h hs⟩
theorem axB(is:List Int)(h:es.map ar7=is.map some:=by rfl):As X es (aCW is):=⟨au4 is h⟩
theorem aaZ(ha:As X es tA):E X (.List es pos) (aGS tA):=⟨aD3 ha.h⟩
theorem ab8{k}(ha:As X es tA):E X (.Tuple es k pos) (aO2 tA):=⟨aEH ha.h⟩
theorem eIx(hr:Ixs X r)(ha:E X a ta)(hb:E X b tb)(hs:auM b:=by intro _ _;rfl):E X (.Subscript a b pos) (tOp r ta tb):=⟨aPB hr.h ha.h hb.h hs⟩
theorem eD{k k':Nat}{ps:List Str}{sp:Sp}(D:Df X.prog X.w X.K X.mg X.base x k ps sp)(hr:Room k' X.A)(ha:As X (e::es) tA)(hk:k<=k':=by decide)(hg:Gl X x:=by rfl)
  (hdb:(x==("__debug__":Str))=false:=by decide) (he:starEach (e::es) X.env=(false,eval e X.env)::starEach es X.env:=by rfl) (hpl:(backTo pos (starEach es X.env)).any (·.1)=false:=by rfl):
  E X (.Call (.Name x p) (e::es) [] pos) (ai2 sp [] E0 tA):=⟨ay3 D hr ha.h hk hg hdb he hpl⟩
theorem eCB{id:String}{rc:List V->Hp->VK->Prop}(hc:Cl1 X (.builtin id) rc)(hm:X.mg x=none)(hv:bootBuiltins x=some (.builtin id))(ha:As X (e::es) tA)(hg:Gl X x:=by rfl)(hn:x≠"__name__":=by decide)(hdb:(x==("__debug__":Str))=false:=by decide)
  (he:starEach (e::es) X.env=(false,eval e X.env)::starEach es X.env:=by rfl) (hpl:(backTo pos (starEach es X.env)).any (·.1)=false:=by rfl):E X (.Call (.Name x p) (e::es) [] pos) (tCB rc tA):=⟨azN hc.h hg hm hv ha.h hn hdb he hpl⟩
theorem eCT{n:String}{rc:List V->Hp->VK->Prop}(hc:Cl1 X (.type n) rc)(hm:X.mg x=none)(hv:bootBuiltins x=some (.type n))(ha:As X (e::es) tA)(hg:Gl X x:=by rfl)(hn:x≠"__name__":=by decide)(hdb:(x==("__debug__":Str))=false:=by decide)
  (he:starEach (e::es) X.env=(false,eval e X.env)::starEach es X.env:=by rfl) (hpl:(backTo pos (starEach es X.env)).any (·.1)=false:=by rfl):E X (.Call (.Name x p) (e::es) [] pos) (tCB rc tA):=⟨avY hc.h hg hm hv ha.h hn hdb he hpl⟩
end
section
variable{X:Cx}
theorem ab1:Op2 X (binaryOp .Add) (rI0 fun i j=>.int (i+j)):=⟨aED⟩
theorem adN:Op2 X (binaryOp .Sub) (rI0 fun i j=>.int (i-j)):=⟨aEL⟩
theorem amQ:Op2 X (binaryOp .Mult) (rI CMul fun i j=>.int (i*j)):=⟨aEP⟩
theorem av5:Op2 X (binaryOp .FloorDiv) (rI aN4 fun i j=>.int (i / j)):=⟨aAR⟩
theorem adS:Op2 X (binaryOp .Mod) (rI (fun _ j=>0<j) fun i j=>.int (i%j)):=⟨aE0⟩
theorem aEO:Op2 X (binaryOp .Pow) (rI aBP fun i j=>.int (i^j.toNat)):=⟨aFN⟩
theorem ahV:Op2 X (binaryOp .LShift) (rI aBP fun i j=>.int (i*2^j.toNat)):=⟨aDB⟩
theorem azY:Op2 X (binaryOp .RShift) (rI (fun _ j=>0<=j) fun i j=>.int (i / 2^j.toNat)):=⟨aFG⟩
theorem aoS:Op2 X (binaryOp .BitAnd) (rI0 fun i j=>.int (Builtin.bitAnd i j)):=⟨aES⟩
theorem oOr:Op2 X (binaryOp .BitOr) (rI0 fun i j=>.int (Builtin.bitOr i j)):=⟨aF4⟩
theorem aLL:Op2 X (binaryOp .Add) aH9:=⟨aDP⟩
theorem oEq:Op2 X (compareOp .Eq) rEq:=⟨aH5⟩
theorem oNe:Op2 X (compareOp .NotEq) rNe:=⟨aG0⟩
theorem oLt:Op2 X (compareOp .Lt) (rI0 fun i j=>.bl (decide (i<j))):=⟨aPL⟩
theorem oLe:Op2 X (compareOp .LtE) (rI0 fun i j=>.bl (decide (i<=j))):=⟨aLE⟩
theorem oGt:Op2 X (compareOp .Gt) (rI0 fun i j=>.bl (decide (j<i))):=⟨aJX⟩
theorem oGe:Op2 X (compareOp .GtE) (rI0 fun i j=>.bl (decide (j<=i))):=⟨aHD⟩
theorem xL:Ixs X (aDG X.K):=⟨aAE⟩
theorem xT:Ixs X (aLY X.K):=⟨aDE⟩
theorem apI:Cl1 X (.builtin "len") (fun xs H Q=>∃p ys,xs=[.ref p]/\(SqL X.K H p ys∨SqT X.K H p ys)/\Q (.int ys.length) H):=⟨apT⟩
theorem cAbs:Cl1 X (.builtin "abs") (fun xs H Q=>∃i,xs=[.int i]/\Q (.int (if i<0 then -i else i)) H):=⟨azK⟩
end
section
variable{X:Cx}{e c iter tg:Expr}{te:TE}{tt:TT}{tA:TA}{wi:TI}{g:TG}{t u tb:TS}{st:Stmt}{rest body ba bb:List Stmt}{pos pos' p:Pos}{x:Str}{a1 a2:Expr}
theorem ssN:Ss X [] aCD:=⟨az2⟩
theorem ssC(h1:S X st t)(h2:Ss X rest u):Ss X (st::rest) (aHZ t u):=⟨ayX h1.h h2.h⟩
theorem ss1(h1:S X st t):Ss X [st] t:=⟨az8 h1.h⟩
theorem aqV:S X st axI:=⟨ax1⟩
theorem aaH(he:E X e te):S X (.Return (some e) pos) (aOO te):=⟨aDA he.h⟩
theorem sIf(hc:T X c tt)(ha:Ss X ba t)(hb:Ss X bb u):S X (.If c ba bb pos) (aJY tt t u):=⟨aGI hc.h ha.h hb.h⟩
theorem ac9(he:E X e te)(hs:swapsWith e none pos.line X.env=pure false:=by rfl):S X (.Expr e pos) (aCS te):=⟨aAD he.h hs⟩
theorem aaP(i:Nat)(he:E X e te)(hN:X.N.Nodup)(hi:X.N[i]? =some x:=by rfl)(hx:Loc X.env.scope x:=by first | exact Or.inl rfl | exact Or.inr rfl)(hs:swapsWith e (some (.Name x pos')) pos.line X.env=pure false:=by rfl)
  (hf:X.fn x=true∨X.env.scope.names.lookup x=some .local:=by first | exact .inl rfl | exact .inr rfl):S X (.Assign [.Name x pos'] e pos) (awD te (ad5 i)):=⟨aD4 hN hi hx he.h hs hf⟩
theorem gN(i:Nat)(hN:X.N.Nodup)(hi:X.N[i]? =some x:=by rfl)(hx:Loc X.env.scope x:=by first | exact Or.inl rfl | exact Or.inr rfl)(hf:X.fn x=true∨X.env.scope.names.lookup x=some .local:=by first | exact .inl rfl | exact .inr rfl):Gt X (.Name x pos) (ad5 i):=⟨az7 hN hi hx hf⟩
theorem ah9(hi:Il X tg iter wi)(hg:Gt X tg g)(hb:Ss X body tb)(hp:PassesOwn (model X.prog X.w) X.A X.env X.xe)(hc:X.calm=true:=by rfl)(hs:∀x,foldedSetIterable iter X.env x=pure x:=by intro _;rfl):S X (.For tg iter body [] pos) (aNO wi g tb):=⟨aE5 hp hc hi.h hg.h hb.h hs⟩
theorem iL(hl:E X e te):Il X tg e (aCA X.K te):=⟨aBT hl.h⟩
theorem iT(hl:E X e te):Il X tg e (aMD X.K te):=⟨aEB hl.h⟩
theorem iR1(hm:X.mg "range"=none)(ha:As X [a1] tA)(hg:Gl X "range":=by rfl)(hs:starEach [a1] X.env=[(false,eval a1 X.env)]:=by rfl):Il X tg (.Call (.Name "range" p) [a1] [] pos) (aB5 tA):=⟨avQ hg hm ha.h hs⟩
theorem iR2(hm:X.mg "range"=none)(ha:As X [a1,a2] tA)(hg:Gl X "range":=by rfl)(hs:starEach [a1,a2] X.env=[(false,eval a1 X.env),(false,eval a2 X.env)]:=by rfl)(hs2:starEach [a2] X.env=[(false,eval a2 X.env)]:=by rfl):
  Il X tg (.Call (.Name "range" p) [a1,a2] [] pos) (aCZ tA):=⟨awG hg hm ha.h hs hs2⟩
end
section
variable{P:Program}{w:World}{K:FG}{mg:Str->Option Value}{base:Heap}{x:Str}{st:Stmt}{ps N:List Str}{k:Nat}{sp:Sp}
theorem Fn.dfs(F:Fn K mg x st ps)(S':FnScope N ps (aaC st))(len:∀vs H Q E,sp vs H Q E->vs.length=ps.length)
  (hbody:∀(f:Addr) (cdv:Value) (A:Around) (outer:List Env) (s:Shared) (H:Hp) (vs:List V) (Q:VK) (E:XK),Room k (A.deeper (envOfC x (aaC st) s.heap.objs.size f cdv))->sp vs H Q E->
   ∃t,Ss (adI CX0 P w K mg base N x (aaC st) f cdv A outer s H E).nox (aa4 st) t/\t {nx:=fun _ H'=>Q .non H',rt:=Q} (start N vs) H):Df P w K mg base x (k+1) ps sp:=
 F.df S' len fun f cdv A outer s H vs Q E hr h=>by
  obtain⟨t,h1,h2⟩:=hbody f cdv A outer s H vs Q E hr h
  exact⟨t,h1.h,h2⟩
theorem Fun.oks{f:Addr}{fd:FuncData}(F:Fun K x x st f fd)(S':FnScope N ps (aaC st))(len:∀vs H Q E,sp vs H Q E->vs.length=ps.length)
  (hbody:∀(cdv:Value) (A:Around) (outer:List Env) (s:Shared) (H:Hp) (vs:List V) (Q:VK) (E:XK),Room k (A.deeper (envOfC x (aaC st) s.heap.objs.size f cdv))->sp vs H Q E->
   ∃t,Ss (adI CX0 P w K mg base N x (aaC st) f cdv A outer s H E).nox (aa4 st) t/\t {nx:=fun _ H'=>Q .non H',rt:=Q} (start N vs) H):FnOk P w K mg base CX0 (k+1) f fd ps sp:=
 F.ok S' len fun cdv A outer s H vs Q E hr h=>by
  obtain⟨t,h1,h2⟩:=hbody cdv A outer s H vs Q E hr h
  exact⟨t,h1.h,h2⟩
end
end L2
namespace L2
open PySem PySem.Spec PyProof.Rows PySem.SeqAt
theorem abW:∀{is:List Int} {us:List Value},Vals (is.map V.int) us->IntsAre us is
 |[],_,.nil=>.nil
 |_::_,_,.cons ⟨_,rfl⟩ r=>.cons _ _ (abW r)
section
variable{X:Cx}
theorem awP(hc:X.calm=true):ahO X (.builtin "sum") (fun xs H Q=>∃(p:Addr) (is:List Int),xs=[.ref p]/\SqL X.K H p (is.map V.int)/\Q (.int is.sum) H):=by
 intro pins s σ H xs us Q I r h
 obtain⟨p,is,rfl,hq,q⟩:=h
 obtain⟨u,rfl,r1⟩:=acK r
 cases r1
 obtain⟨its,rv,pl,hz⟩:=I.list hq
 have hi:=abW rv
 obtain⟨ys,hy⟩:=hi.allInts.items
 have hl:s.heap.IsList p (intItems ys):=by rw[←hy];exact pl.isList
 refine sum_intListG (I.ok.hd hc) hl fun h' tk t' hk=>?_
 have e1:is=ys.toList.map (·.1):=by
  rw[←nums_intItems,←hy]
  exact hi.numsOf.symm
 have e2:preSum (numAt ys) ys.size=is.sum:=by
  rw[preSum_eq,dP (by simp),e1]
 rw[e2]
 exact⟨.int is.sum,H,I.kept hk,⟨_,rfl⟩,q⟩
noncomputable def avV(tup:Bool)(is:List Int):PyData:=if tup then .tuple (is.map PyData.int) else .list (is.map PyData.int)
noncomputable def SqI(K:FG)(H:Hp)(a:Addr)(tup:Bool)(is:List Int):Prop:=if tup then SqT K H a (is.map V.int) else SqL K H a (is.map V.int)
theorem axK{pins:List (Addr×Obj)}{σ:St}{H:Hp}{s:Shared}{a:Addr}{tup:Bool}{is:List Int}(I:Inv X pins σ H s)(h:SqI X.K H a tup is):∃as,Reads s.heap (.ref a) (avV tup is) as:=by
 cases tup with
 |false=>
  obtain⟨its,rv,pl,hz⟩:=I.list (show SqL X.K H a (is.map V.int) from h)
  exact⟨_,PySem.W.reads_of_ints pl.isList (abW rv)⟩
 |true=>
  obtain⟨its,rv,⟨o,ho,hc,n,hd⟩,hz⟩:=I.tuple (show SqT X.K H a (is.map V.int) from h)
  exact⟨_,Reads.tuple ho hc hd (by simpa using PySem.W.readsAll_of_ints (abW rv))⟩
theorem auN(tup:Bool)(is:List Int):shaped (avV tup is)=true:=by
 cases tup with
 |false=>exact PySem.W.shaped_ints is
 |true=>
  have h1:=PySem.W.depthAll_ints is
  have h2:PyData.depth (.tuple (is.map PyData.int))<=64:=by simp only[PyData.depth];omega
  show (PyData.canLay0 (.tuple (is.map PyData.int))&&decide (PyData.depth (.tuple (is.map PyData.int))<=64))=true
  rw[bX]
  exact⟨by simp only[PyData.canLay0];exact PySem.W.canLayAll0_ints is,d6 h2⟩
theorem aDX(tup:Bool)(is js:List Int):noMix (avV tup is) (avV tup js)=true:=by
 cases tup with
 |false=>show noMix (.list _) (.list _)=true;simp only[noMix];exact PySem.W.noMix_ints is js
 |true=>show noMix (.tuple _) (.tuple _)=true;simp only[noMix];exact PySem.W.noMix_ints is js
theorem aJF(tup:Bool)(is js:List Int):same (avV tup is) (avV tup js)=decide (is=js):=by
 cases tup with
 |false=>show same (.list _) (.list _)=_;simp only[same];exact PySem.W.same_ints is js
 |true=>show same (.tuple _) (.tuple _)=_;simp only[same];exact PySem.W.same_ints is js
noncomputable def aK8(K:FG)(neg:Bool):R2:=fun x y H Q=>∃(a b:Addr) (tup:Bool) (is js:List Int),x=.ref a/\y=.ref b/\SqI K H a tup is/\SqI K H b tup js/\Q (.bl (if neg then !decide (is=js) else decide (is=js))) H
theorem aDW(hu:X.A.units+64<cLine):OpR X (compareOp .NotEq) (aK8 X.K true):=by
 intro pins s σ H x y v u Q I rx ry h
 obtain⟨a,b,tup,is,js,rfl,rfl,ha,hb,q⟩:=h
 cases rx
 cases ry
 obtain⟨as,ra⟩:=axK I ha
 obtain⟨bs,rb⟩:=axK I hb
 exact ne_dataH_same ra rb (auN _ _) (auN _ _) hu (aDX _ _ _) (by rw[aJF];exact⟨.bl _,H,I,rfl,q⟩)
end
section
variable{X:Cx}{elt iter:Expr}{x y:Str}{px py pos spos:Pos}{ifs:List Expr}{scope:Scope}{wi:TI}{tt:TT}{te:TE}
theorem ac4(N':List Str)(js:List Nat)(hi:Il X (.Name x px) iter wi)
  (ht:∀(cl:List (Str×Addr)) (C:Addr) (ex:List Addr) (pins:List (Addr×Obj)) (s:Shared) (H:Hp),Fs (aaQ X (x::N') scope cl C ex pins s H) ifs tt)
  (he:∀(cl:List (Str×Addr)) (C:Addr) (ex:List Addr) (pins:List (Addr×Obj)) (s:Shared) (H:Hp),E (aaQ X (x::N') scope cl C ex pins s H) elt te)
  (hcl:∃cl,Clos X scope cl:=by exact akR rfl rfl rfl rfl) (hx:scope.names.lookup x=some .local:=by rfl) (hnd:(x::N').Nodup:=by decide +kernel) (hN:js.map (fun j=>X.N[j]?)=N'.map some:=by rfl)
  (hk:N'.all (fun y=>(X.env.kindOf y==some .cell)||(X.env.kindOf y==some .free))=true:=by rfl) (hf:N'.all (fun y=>scope.names.lookup y==some .free)=true:=by rfl) (hc:X.calm=true:=by rfl)
  (hs:∀x,foldedSetIterable iter X.env x=pure x:=by intro _;rfl):E X (.ListComp elt [⟨.Name x px,iter,ifs,0⟩] scope pos) (ayM wi js tt te):=by
 obtain⟨cl,hcl⟩:=hcl
 exact⟨aBO hcl hx hnd hN hk hf hc hi.h (fun C ex pins s H=>(ht cl C ex pins s H).h) (fun C ex pins s H=>(he cl C ex pins s H).h) hs⟩
theorem au7(i:Nat)(N':List Str)(js:List Nat)(hi:Il X (.Name x px) iter wi)
  (ht:∀(cl:List (Str×Addr)) (C:Addr) (ex:List Addr) (pins:List (Addr×Obj)) (s:Shared) (H:Hp),Fs (aaQ X (x::N') scope cl C ex pins s H) ifs tt)
  (he:∀(cl:List (Str×Addr)) (C:Addr) (ex:List Addr) (pins:List (Addr×Obj)) (s:Shared) (H:Hp),E (aaQ X (x::N') scope cl C ex pins s H) elt te)
  (hXN:X.N.Nodup) (hsw:swapsWith (.ListComp elt [⟨.Name x px,iter,ifs,0⟩] scope pos) (some (.Name y py)) spos.line X.env=pure true:=by rfl)
  (hiN:X.N[i]? =some y:=by rfl) (hy:X.env.scope.names.lookup y=some .local:=by rfl)
  (hcl:∃cl,Clos X scope cl:=by exact akR rfl rfl rfl rfl) (hx:scope.names.lookup x=some .local:=by rfl) (hnd:(x::N').Nodup:=by decide +kernel) (hN:js.map (fun j=>X.N[j]?)=N'.map some:=by rfl)
  (hk:N'.all (fun y=>(X.env.kindOf y==some .cell)||(X.env.kindOf y==some .free))=true:=by rfl) (hf:N'.all (fun y=>scope.names.lookup y==some .free)=true:=by rfl) (hc:X.calm=true:=by rfl)
  (hs:∀x,foldedSetIterable iter X.env x=pure x:=by intro _;rfl):S X (.Assign [.Name y py] (.ListComp elt [⟨.Name x px,iter,ifs,0⟩] scope pos) spos) (awD (ayM wi js tt te) (ad5 i)):=by
 obtain⟨cl,hcl⟩:=hcl
 refine⟨fun pins s σ H D I h=>?_⟩
 rw[exec_Assign_Name_used _ _ _ _ hsw]
 refine dW (dR (dW ?_))
 show wpAny _ X.A (do let _ ←comprehension (.ListComp elt [⟨.Name x px,iter,ifs,0⟩] scope pos) scope X.env _ (newList []) false (eval iter X.env) (some (assign (.Name y py) X.env))) _ _ s
 refine dW (dX (dU (use:=some (assign (.Name y py) X.env)) (Q:=fun _ s'=>SP X pins D .next s') rfl hs hcl.is hcl.kind hcl.names ?_) (fun _ s' hq=>eC (eC hq)) fun _ _ z=>z)
 refine thn (hi.h pins s σ H _ I h) fun xv s₁ h₁=>thn h₁ fun itv s₂ h₂=>?_
 obtain⟨it,fp,tn,J,H2,rfl,I2,T,st,hfp,q⟩:=h₂
 refine amP (Q:=fun v H'=>D.nx (σ.set i (some v)) H') (RR:=fun acc C=>compPost (model X.prog X.w) X.A X.xe (some (assign (.Name y py) X.env)) (fun _ s'=>SP X pins D .next s') acc C) hcl hx hnd hN hk hf hc (fun C ex pins s H=>(ht cl C ex pins s H).h) (fun C ex pins s H=>(he cl C ex pins s H).h) I2 T st hfp q ?_
 intro D' C s' H' m I' hC0 hCL hCs hCc hCp hn hq
 show wpAny _ _ (assign (.Name y py) X.env (.ref D')) _ _ s'
 refine wpAny_assign_Name (ah8 I' hXN hiN (.inl hy) (v:=.ref D') rfl (fun s3 I3 sb3=>?_) (.inr hy))
 obtain⟨a3,sb3,e3⟩:=sb3
 have hCa:C≠a3:=by
  rcases e3 with e3 | e3
  ·rw[e3];exact hCL
  ·exact fun z=>hCc y a3 e3 z.symm
 refine⟨m,hn.sameBut sb3 hCa,fun h' sb=>⟨σ.set i (some (.ref D')),H',?_,hq⟩⟩
 exact I3.turned (t':=s3.toks) (fun b o hb e=>(sb.2 b hb).trans e) hC0 hCL (.inr hCs) hCc hCp
theorem fsN:Fs X [] aIR:=⟨aDL⟩
theorem fs1{c:Expr}(h:T X c tt):Fs X [c] tt:=⟨aEN h.h⟩
theorem cSum(hc:X.calm=true:=by rfl):Cl1 X (.builtin "sum") (fun xs H Q=>∃(p:Addr) (is:List Int),xs=[.ref p]/\SqL X.K H p (is.map V.int)/\Q (.int is.sum) H):=⟨awP hc⟩
theorem oNeI(hu:X.A.units+64<cLine):Op2 X (compareOp .NotEq) (aK8 X.K true):=⟨aDW hu⟩
theorem gTu{es:List Expr}{k n:Nat}{t:TGs}(h:Gts X es t)(hc:X.calm=true:=by rfl)(hn:(assignEach es X.env).length=n:=by rfl)(hst:(assignEach es X.env).findIdx? (·.1)=none:=by rfl):Gt X (.Tuple es k pos) (ayR X.K n t):=⟨aC7 hc h.h hn hst⟩
theorem gsN:Gts X [] aAB:=⟨aBA⟩
theorem gsC{e:Expr}{es:List Expr}{t:TG}{u:TGs}(h1:Gt X e t)(h2:Gts X es u)(hs:(assignEach (e::es) X.env).map (·.2)=assign e X.env::(assignEach es X.env).map (·.2):=by rfl):Gts X (e::es) (aoE t u):=⟨axF h1.h h2.h hs⟩
theorem av2{tg e:Expr}{g:TG}(he:E X e te)(hg:Gt X tg g)(hs:swapsWithSole [tg] e pos.line X.env=pure false:=by rfl)(hw:swappedStores [tg] e X.env=pure none:=by rfl)
  (h1:(assignEach [tg] X.env).map (·.2)=[assign tg X.env]:=by rfl):S X (.Assign [tg] e pos) (awD te g):=⟨aD0 he.h hg.h hs hw h1⟩
end
section
variable{js:List Nat}{σ:St}{tt:TT}{te:TE}{Q:VK}{H1:Hp}
theorem acT{K:FG}{a:Addr}{xs:List V}(R:Nat->List V->Prop)(hn:xs.length<=sizeLine)(h0:R 0 [])(hq:SqL K H1 a xs)
  (hs:∀(i:Nat) (v:V) (l:List V) (D:Addr) (H2:Hp) (E:V->Hp->Prop) (F:Hp->Prop),xs[i]? =some v->R i l->H1 D=none->Same H1 H2->H2 D=some (.lst l)->(∀y H5,Same H2 H5->R (i+1) (l++[y])->E y H5)->(∀H4,Same H2 H4->R (i+1) l->F H4)->
   tt (some v::aa3 js σ) H2 fun b H4=>if b=true then te (some v::aa3 js σ) H4 E else F H4)
  (hd:∀(D:Addr) (H2:Hp) (l:List V),R xs.length l->H1 D=none->Same H1 H2->H2 D=some (.lst l)->Q (.ref D) H2):ak4 (Itl K a) js σ tt te Q H1:=by
 intro D hD
 refine⟨fun i m H2=>m=xs.length-i/\i<=xs.length/\Same H1 H2/\∃l,H2 D=some (.lst l)/\l.length<=i/\R i l,⟨xs.length,by simp,bM _,aaB hD _,[],aaA,aV _,h0⟩,?_⟩
 rintro i m H2 ⟨rfl,hi,s2,l,h2,hll,hR⟩
 by_cases hlt:i<xs.length
 ·refine .inr ⟨⟨xs,xs[i],s2.seq hq,by simp[hlt]⟩,fun v H3 y=>?_⟩
  obtain⟨e,ev⟩:=y
  subst e
  have hv:=ev xs (s2.seq hq)
  refine hs i v l D _ _ _ hv hR hD s2 h2 (fun z H5 s5 r5=>?_) (fun H4 s4 r4=>?_)
  ·refine⟨l,s5 _ _ h2,cN hll (a9 hlt hn),xs.length-(i+1),by omega,rfl,hlt,fun b o hb=>?_,l++[z],aaA,by rw[aW,b8];omega,r5⟩
   rw[aaE (aaN hb hD)]
   exact s5 _ _ (s2 _ _ hb)
  ·exact⟨xs.length-(i+1),by omega,rfl,hlt,s2.trans s4,l,s4 _ _ h2,by omega,r4⟩
 ·have e:i=xs.length:=by omega
  subst e
  exact .inl ⟨⟨xs,s2.seq hq,aV _⟩,hd D H2 l hR hD s2 h2⟩
theorem Same.tup{K:FG}{H H':Hp}{a:Addr}{xs:List V}(e:Same H H')(h:SqT K H a xs):SqT K H' a xs:=by
 rcases h with (h | ⟨o,h⟩) | h
 ·exact .inl (.inl (e _ _ h))
 ·exact .inl (.inr ⟨o,e _ _ h⟩)
 ·exact .inr h
theorem as4{X:Cx}:Op1 X (unaryOp .USub) (rU fun i=>.int (-i)):=⟨aDM⟩
end
section
variable{prog:Program}{w:World}{A:Around}{E:Value->Shared->Prop}{s:Shared}
end
section
variable{X:Cx}{pos:Pos}
theorem aeE{o e:Expr}{to te:TE}{apos cpos:Pos}(ho:E X o to)(he:E X e te)(hbase:attributeBase o "append" X.env (eval o X.env)=eval o X.env:=by rfl)
  (hfew:((backTo cpos (starEach [e] X.env)).all (fun x=> !x.1)&&(backToKw cpos (keywordEach [] X.env)).all (fun x=>x.1.isSome)&&decide (([e]:List Expr).length+([]:List Keyword).length+(if ([]:List Keyword).isEmpty then 0 else 1)<30))=true:=by rfl)
  (hline:(apos.endLine==cpos.line)=true:=by rfl) (hs:starEach [e] X.env=(false,eval e X.env)::starEach [] X.env:=by rfl) (hplain:(backTo cpos (starEach [] X.env)).any (·.1)=false:=by rfl):
  E X (.Call (.Attribute o "append" apos) [e] [] cpos) (tBM X.K "list" auI to (ac0 te adJ)):=
 ⟨aqX PySem.F.plainAttrs_list PySem.F.slot_list_append PySem.F.type_list_append aiK ho.h (acB he.h ac7 hs) hbase hfew hline hs hplain⟩
end
section
variable{js:List Nat}{σ:St}{tt:TT}{te:TE}{Q:VK}{H1:Hp}
theorem arT{K:FG}{a:Addr}{xs:List V}(R:Nat->List V->Prop)(hn:xs.length<=sizeLine)(h0:R 0 [])(hq:SqT K H1 a xs)
  (hs:∀(i:Nat) (v:V) (l:List V) (D:Addr) (H2:Hp) (E:V->Hp->Prop) (F:Hp->Prop),xs[i]? =some v->R i l->H1 D=none->Same H1 H2->H2 D=some (.lst l)->(∀y H5,Same H2 H5->R (i+1) (l++[y])->E y H5)->(∀H4,Same H2 H4->R (i+1) l->F H4)->
   tt (some v::aa3 js σ) H2 fun b H4=>if b=true then te (some v::aa3 js σ) H4 E else F H4)
  (hd:∀(D:Addr) (H2:Hp) (l:List V),R xs.length l->H1 D=none->Same H1 H2->H2 D=some (.lst l)->Q (.ref D) H2):ak4 (Itt K a) js σ tt te Q H1:=by
 intro D hD
 refine⟨fun i m H2=>m=xs.length-i/\i<=xs.length/\Same H1 H2/\∃l,H2 D=some (.lst l)/\l.length<=i/\R i l,⟨xs.length,by simp,bM _,aaB hD _,[],aaA,aV _,h0⟩,?_⟩
 rintro i m H2 ⟨rfl,hi,s2,l,h2,hll,hR⟩
 by_cases hlt:i<xs.length
 ·refine .inr ⟨⟨xs,xs[i],s2.tup hq,by simp[hlt]⟩,fun v H3 y=>?_⟩
  obtain⟨e,ev⟩:=y
  subst e
  have hv:=ev xs (s2.tup hq)
  refine hs i v l D _ _ _ hv hR hD s2 h2 (fun z H5 s5 r5=>?_) (fun H4 s4 r4=>?_)
  ·refine⟨l,s5 _ _ h2,cN hll (a9 hlt hn),xs.length-(i+1),by omega,rfl,hlt,fun b o hb=>?_,l++[z],aaA,by rw[aW,b8];omega,r5⟩
   rw[aaE (aaN hb hD)]
   exact s5 _ _ (s2 _ _ hb)
  ·exact⟨xs.length-(i+1),by omega,rfl,hlt,s2.trans s4,l,s4 _ _ h2,by omega,r4⟩
 ·have e:i=xs.length:=by omega
  subst e
  exact .inl ⟨⟨xs,s2.tup hq,aV _⟩,hd D H2 l hR hD s2 h2⟩
end
noncomputable def Digs(ds ss:List Int):Prop:=Paired (fun d z:Int=>0<=d/\d<z) ds ss
theorem Digs.snoc{ds ss:List Int}{d z:Int}(h:Digs ds ss)(h0:0<=d)(h1:d<z):Digs (ds++[d]) (ss++[z]):=Paired.snoc h ⟨h0,h1⟩
theorem Digs.len{ds ss:List Int}(h:Digs ds ss):ds.length=ss.length:=Paired.length h
theorem ab2{H H2:Hp}{p:Addr}{o:HO}(hn:H p=none)(s:Same H H2):Same H (upd H2 p o):=fun b u h=>by
 rw[aaE (aaN h hn)]
 exact s b u h
theorem aO5{a m b:Int}(h0:0<m)(h1:m<=18446744073709551616):CMul (a%m) b:=.inl ⟨Int.lt_of_lt_of_le (by decide) (c6 a (Int.ne_of_gt h0)),Int.lt_of_lt_of_le (c7 a h0) h1⟩
theorem aHE:(10:Int)^(18:Int).toNat=1000000000000000000:=by decide +kernel
structure FnM(K:FG)(C:Addr)(m qual:Str)(st:Stmt)(ps:List Str):Prop where
 ex:∃(f:Addr) (fd:FuncData),Fun K m qual st f fd/\Binds K fd ps []/\Meth K C m f
structure DfM(P:Program)(w:World)(K:FG)(mg:Str->Option Value)(base:Heap)(C:Addr)(m:Str)(k:Nat)(ps:List Str)(sp:Sp):Prop where
 ex:∃(f:Addr) (fd:FuncData),FnOk P w K mg base CX0 k f fd ps sp/\Binds K fd ps []/\Meth K C m f
structure Cd(K:FG)(mg:Str->Option Value)(x:Str)(C:Addr):Prop where
 at_:mg x=some (.ref C)
 cl:Cls K C
 makes:PySem.W.makesIn K C=true
 kp:PySem.W.keepIn K (.ref C)=true
section
variable{P:Program}{w:World}{K:FG}{mg:Str->Option Value}{base:Heap}{m qual:Str}{st:Stmt}{ps N:List Str}{k:Nat}{sp:Sp}{C:Addr}
theorem FnM.dfs(F:FnM K C m qual st ps)(S':FnScope N ps (aaC st))(len:∀vs H Q E,sp vs H Q E->vs.length=ps.length)
  (hbody:∀(f:Addr) (cdv:Value) (A:Around) (outer:List Env) (s:Shared) (H:Hp) (vs:List V) (Q:VK) (E:XK),Room k (A.deeper (envOfC qual (aaC st) s.heap.objs.size f cdv))->sp vs H Q E->
   ∃t,Ss (adI CX0 P w K mg base N qual (aaC st) f cdv A outer s H E).nox (aa4 st) t/\t {nx:=fun _ H'=>Q .non H',rt:=Q} (start N vs) H):DfM P w K mg base C m (k+1) ps sp:=by
 obtain⟨f,fd,F1,hb,hm⟩:=F.ex
 refine⟨⟨f,fd,F1.ok S' len fun cdv A outer s H vs Q E hr h=>?_,hb,hm⟩⟩
 obtain⟨t,h1,h2⟩:=hbody f cdv A outer s H vs Q E hr h
 exact⟨t,h1.h,h2⟩
theorem aaR{f:Addr}{oc:Value}{od an:Option Addr}{osl:Array (Option Value)}{kV doc pm cdv ct:Value}
  (a:PySem.W.findIn K (.ref C) m=some (some (.ref f))) (i:PySem.W.isFn K (.ref f)=true) (l:K.lookup f=some ⟨oc,od,.func (PySem.W.fnOf m qual (abR st) (aa4 st) (aaC st) .none kV doc pm an cdv ct),osl⟩)
  (c:PySem.W.codeIn K cdv qual=true) (k:PySem.W.keepIn K (.ref f)=true)
  (hb:∀(kV doc pm:Value) (an:Option Addr) (cdv ct:Value) (us:List Value),us.length=ps.length->bindArgs (PySem.W.fnOf m qual (abR st) (aa4 st) (aaC st) .none kV doc pm an cdv ct) ⟨us,[]⟩=pure (ps.zip us)):FnM K C m qual st ps:=by
 have F:=as5 (st:=st) l c k
 exact⟨⟨f,_,F,F.binds (ps:=ps) hb,⟨a,i,k⟩⟩⟩
end
section
variable{X:Cx}{x m:Str}{C:Addr}{k k':Nat}{ps:List Str}{sp:Sp}{e o value:Expr}{es:List Expr}{ta tv:TE}{t:TA}{p pos apos pos':Pos}{f:Str}
theorem eMk(c:Cd X.K X.mg x C)(D:DfM X.prog X.w X.K X.mg X.base C "__init__" k ps sp)(hr:Room k' X.A)(ha:As X (e::es) t)(hk:k+1<=k':=by decide)(hg:Gl X x:=by rfl)(hdb:(x==("__debug__":Str))=false:=by decide)
  (he:starEach (e::es) X.env=(false,eval e X.env)::starEach es X.env:=by rfl) (hpl:(backTo pos (starEach es X.env)).any (·.1)=false:=by rfl):E X (.Call (.Name x p) (e::es) [] pos) (asK C sp [] E0 t):=by
 obtain⟨f,fd,F,hb,hm⟩:=D.ex
 exact⟨avL ⟨c.makes,hm.at_,hm.fn,c.kp⟩ F (hr.mono hk) hg c.at_ hb .nil alM ha.h hdb he hpl⟩
theorem eMe{pl:Sem Bool}(c:Cls X.K C)(D:DfM X.prog X.w X.K X.mg X.base C m k ps sp)(hr:Room k' X.A)(ho:E X o ta)(ha:As X (e::es) t)(hk:k<=k':=by decide)
  (hst:starEach (e::es) X.env=(false,eval e X.env)::starEach es X.env:=by rfl) (hpl:(backTo pos (starEach es X.env)).any (·.1)=false:=by rfl)
  (ht:eval (.Call (.Attribute o m apos) (e::es) [] pos) X.env=(do
   let ov ←eval o X.env
   standAt apos.atName
   let (f,first) ←holding [ov] (getMethod ov m pl)
   callWith pos f first (backTo pos (starEach (e::es) X.env)) (backToKw pos (keywordEach [] X.env))):=by rfl):E X (.Call (.Attribute o m apos) (e::es) [] pos) (aqN C m sp [] E0 ta t):=by
 obtain⟨f,fd,F,hb,hm⟩:=D.ex
 exact⟨aAS ho.h c hm F (hr.mono hk) hb .nil alM ha.h hst hpl ht⟩
theorem eFl(he:E X e ta)(hb:attributeBase e f X.env (eval e X.env)=eval e X.env:=by rfl):E X (.Attribute e f pos) (aBI X.K ta f):=⟨aFR he.h hb⟩
theorem sFl(ha:E X o ta)(hv:E X value tv)(hs:swapsWith value (some (.Attribute o f pos')) pos.line X.env=pure false:=by rfl):S X (.Assign [.Attribute o f pos'] value pos) (aGW X.K ta tv f):=⟨aEG ha.h hv.h hs⟩
noncomputable def tMkN(C:Addr):TE:=fun _ H Q=>∀x dx,H x=none->H dx=none->dx≠x->Q (.ref x) (upd (upd H dx (.own x)) x (.ins C dx []))
theorem av7(c:Cd X.K X.mg x C)(hi:PySem.W.findIn X.K (.ref C) "__init__"=some (some (.builtin "object.__init__")))(hg:Gl X x:=by rfl)(hdb:(x==("__debug__":Str))=false:=by decide):E X (.Call (.Name x p) [] [] pos) (tMkN C):=by
 refine⟨fun pins s σ H Q I h=>?_⟩
 refine d9 (adX I hg c.at_ ?_ hdb)
 refine PySem.W.callWith_K0 I.kIn c.kp (wpAny_call ?_)
 have hq:=h (s.heap.objs.size+1) s.heap.objs.size (I.hok.fresh (Nat.le_succ _)) (I.hok.fresh (aV _)) (bD (Nat.lt_succ_self _))
 have I2:=Inv.made (C:=C) I
 have e2:((s.heap.push PySem.W.emptyDict).push (PySem.W.instObj C s.heap.objs.size)).get? (s.heap.objs.size+1)=some (PySem.W.instObj C s.heap.objs.size):=by
  have:=bL (s.heap.push PySem.W.emptyDict) (o:=PySem.W.instObj C s.heap.objs.size) rfl
  rwa [cR] at this
 have Y:=PySem.W.makes_of (M:=model X.prog X.w) I.kIn c.makes
 refine awR I.kIn c.makes hi (fun self=>PySem.W.Looks.of_pure (PySem.W.oi_bind self)) ?_
 have t1:PySem.W.Looks (model X.prog X.w) ((s.heap.push PySem.W.emptyDict).push (PySem.W.instObj C s.heap.objs.size)) (typeOf (.ref (s.heap.objs.size+1))) (.ref C):=(PySem.W.Looks.ld e2).andThen .now
 have t2:PySem.W.Looks (model X.prog X.w) ((s.heap.push PySem.W.emptyDict).push (PySem.W.instObj C s.heap.objs.size)) (isInstance (.ref (s.heap.objs.size+1)) (.type "object")) true:=t1.andThen (Y.top.keeps fun b o q=>bB _ (bB _ q))
 refine codeAny_call_builtin PySem.W.oi_plain PySem.W.entry_oi (@PySem.W.check_slot (model X.prog X.w) _ _ _ "object.__init__" "object" "__init__" (.ref (s.heap.objs.size+1)) [] [] _ PySem.W.oi_kind PySem.W.oi_split t2 (PySem.W.oi_args (.ref (s.heap.objs.size+1))) ?_)
 rw[PySem.W.oi_run]
 exact eC (And.intro rfl ⟨V.ref (s.heap.objs.size+1),_,I2,rfl,hq⟩)
end
structure Po(X:Cx)(o:Option Expr)(t:TO):Prop where
 h:PO X o t
structure Sls(X:Cx)(r:V->Option Int->Option Int->Hp->VK->Prop):Prop where
 h:SlR X r
section
variable{X:Cx}{e:Expr}{te:TE}{lo hi:Option Expr}{tl th:TO}{pos p2:Pos}
theorem poN:Po X none auX:=⟨aAQ⟩
theorem poS(h:E X e te):Po X (some e) (aCE te):=⟨aAV h.h⟩
theorem slL:Sls X (aGN X.K):=⟨aA5⟩
theorem eSl{r:V->Option Int->Option Int->Hp->VK->Prop}(hr:Sls X r)(he:E X e te)(hl:Po X lo tl)(hu:Po X hi th):E X (.Subscript e (.Slice lo hi none p2) pos) (tSl r te tl th):=⟨aw9 hr.h he.h hl.h hu.h⟩
end
noncomputable def aKS(xs:List Int)(lo hi:Option Int):List Int:=(xs.drop (HT.sIx xs.length 0 lo)).take (HT.sIx xs.length xs.length hi-HT.sIx xs.length 0 lo)
structure FunD(K:FG)(x qual:Str)(st:Stmt)(f:Addr)(fd:FuncData):Prop where
 ex:∃(oc:Value) (od:Option Addr) (dV kV doc pm:Value) (an:Option Addr) (cdv ct:Value) (osl:Array (Option Value)),
  fd=PySem.W.fnOf x qual (abR st) (aa4 st) (aaC st) dV kV doc pm an cdv ct/\K.lookup f=some ⟨oc,od,.func fd,osl⟩/\PySem.W.codeIn K cdv qual=true
 kp:PySem.W.keepIn K (.ref f)=true
structure FnMD(K:FG)(C:Addr)(m qual:Str)(st:Stmt)(ps:List Str)(dvs:List V):Prop where
 ex:∃(f:Addr) (fd:FuncData) (ds:List Value),FunD K m qual st f fd/\Binds K fd ps []/\Vals dvs ds/\Binds K fd ps ds/\Meth K C m f
structure DfMD(P:Program)(w:World)(K:FG)(mg:Str->Option Value)(base:Heap)(C:Addr)(m:Str)(k:Nat)(ps:List Str)(sp:Sp)(dvs:List V):Prop where
 ex:∃(f:Addr) (fd:FuncData) (ds:List Value),FnOk P w K mg base CX0 k f fd ps sp/\Binds K fd ps []/\Vals dvs ds/\Binds K fd ps ds/\Meth K C m f
section
variable{P:Program}{w:World}{K:FG}{mg:Str->Option Value}{base:Heap}{m qual:Str}{st:Stmt}{ps N:List Str}{k:Nat}{sp:Sp}{C:Addr}{dvs:List V}
theorem DfMD.dfm(D:DfMD P w K mg base C m k ps sp dvs):DfM P w K mg base C m k ps sp:=by
 obtain⟨f,fd,ds,a,b,_,_,e⟩:=D.ex
 exact⟨⟨f,fd,a,b,e⟩⟩
theorem FnMD.dfs(F:FnMD K C m qual st ps dvs)(S':FnScope N ps (aaC st))(len:∀vs H Q E,sp vs H Q E->vs.length=ps.length)
  (hbody:∀(f:Addr) (cdv:Value) (A:Around) (outer:List Env) (s:Shared) (H:Hp) (vs:List V) (Q:VK) (E:XK),Room k (A.deeper (envOfC qual (aaC st) s.heap.objs.size f cdv))->sp vs H Q E->
   ∃t,Ss (adI CX0 P w K mg base N qual (aaC st) f cdv A outer s H E).nox (aa4 st) t/\t {nx:=fun _ H'=>Q .non H',rt:=Q} (start N vs) H):DfMD P w K mg base C m (k+1) ps sp dvs:=by
 obtain⟨f,fd,ds,F1,hb,hv,hbd,hm⟩:=F.ex
 refine⟨⟨f,fd,ds,?_,hb,hv,hbd,hm⟩⟩
 obtain⟨oc,od,dV,kV,doc,pm,an,cdv,ct,osl,rfl,lk,hcd⟩:=F1.ex
 refine au9 lk hcd S' len fun A outer s H vs Q E hr hsp=>?_
 obtain⟨t,h,q⟩:=hbody f cdv A outer s H vs Q E hr hsp
 exact⟨t,h.h.nox,q⟩
theorem az3{f:Addr}{oc:Value}{od an:Option Addr}{osl:Array (Option Value)}{dV kV doc pm cdv ct:Value}{ds:List Value}
  (a:PySem.W.findIn K (.ref C) m=some (some (.ref f))) (i:PySem.W.isFn K (.ref f)=true) (l:K.lookup f=some ⟨oc,od,.func (PySem.W.fnOf m qual (abR st) (aa4 st) (aaC st) dV kV doc pm an cdv ct),osl⟩)
  (c:PySem.W.codeIn K cdv qual=true) (k:PySem.W.keepIn K (.ref f)=true)
  (hb:Binds K (PySem.W.fnOf m qual (abR st) (aa4 st) (aaC st) dV kV doc pm an cdv ct) ps []) (hv:Vals dvs ds) (hd:Binds K (PySem.W.fnOf m qual (abR st) (aa4 st) (aaC st) dV kV doc pm an cdv ct) ps ds):FnMD K C m qual st ps dvs:=
 ⟨⟨f,_,ds,⟨⟨oc,od,dV,kV,doc,pm,an,cdv,ct,osl,rfl,l,c⟩,k⟩,hb,hv,hd,⟨a,i,k⟩⟩⟩
end
section
variable{X:Cx}{x:Str}{C:Addr}{k k':Nat}{ps:List Str}{sp:Sp}{p pos:Pos}{dvs:List V}
theorem eMkD(c:Cd X.K X.mg x C)(D:DfMD X.prog X.w X.K X.mg X.base C "__init__" k ps sp dvs)(hr:Room k' X.A)(hk:k+1<=k':=by decide)(hg:Gl X x:=by rfl)(hdb:(x==("__debug__":Str))=false:=by decide):
  E X (.Call (.Name x p) [] [] pos) (asK C sp dvs E0 adJ):=by
 obtain⟨f,fd,ds,F,_,hv,hb,hm⟩:=D.ex
 exact⟨ayI ⟨c.makes,hm.at_,hm.fn,c.kp⟩ F (hr.mono hk) hg c.at_ hb hv alM hdb⟩
end
theorem ab0{H:Hp}{xo dx:Addr}{a b:HO}(nx:H xo=none)(ndx:H dx=none):Same H (upd (upd H dx a) xo b):=fun z u hb=>by
 rw[aaE (aaN hb nx),aaE (aaN hb ndx)]
 exact hb
theorem acW{H:Hp}{xo dx:Addr}{a b c:HO}(nx:H xo=none)(ndx:H dx=none):Same H (upd (upd (upd H dx a) xo b) xo c):=fun z u hb=>by
 rw[aaE (aaN hb nx)]
 exact ab0 nx ndx z u hb
theorem axH{H:Hp}{xo dx:Addr}{a b c d:HO}(nx:H xo=none)(ndx:H dx=none):Same H (upd (upd (upd (upd H dx a) xo b) xo c) xo d):=fun z u hb=>by
 rw[aaE (aaN hb nx)]
 exact acW nx ndx z u hb
end L2
namespace L2
open PySem PyProof.Rows
noncomputable def aG1(p:Nat->Bool):Nat->Nat
 |0=>0
 |n+1=>aG1 p n+(if p n=true then 2^n else 0)
@[irreducible] noncomputable def cnt(p:Nat->Bool)(n:Nat):Nat:=aG1 p n
theorem amE(p:Nat->Bool):cnt p 0=0:=by rw[cnt];rfl
theorem alT(p:Nat->Bool)(n:Nat):cnt p (n+1)=cnt p n+(if p n=true then 2^n else 0):=by rw[cnt,cnt];rfl
theorem at2(p:Nat->Bool):∀n,cnt p n<2^n
 |0=>by rw[amE];decide
 |n+1=>by
  have h:=at2 p n
  rw[alT,Nat.pow_succ]
  split<;>omega
theorem avJ(p:Nat->Bool):∀n i,(cnt p n).testBit i=(decide (i<n)&&p i)
 |0,i=>by rw[amE];simp
 |n+1,i=>by
  have h:=at2 p n
  have ih:=avJ p n i
  rw[alT]
  by_cases hp:p n=true
  ·rw[if_pos hp,Nat.add_comm]
   rcases Nat.lt_trichotomy i n with hi | hi | hi
   ·rw[Nat.testBit_two_pow_add_gt hi,ih]
    simp[hi,Nat.lt_succ_of_lt hi]
   ·subst hi
    rw[Nat.testBit_two_pow_add_eq,ih]
    simp[hp]
   ·have h2:2^n+cnt p n<2^i:=a9 (by rw[Nat.pow_succ];omega) (Nat.pow_le_pow_right (by decide) hi)
    rw[Nat.testBit_lt_two_pow h2]
    have:¬i<n+1:=by omega
    simp[this]
  ·rw[if_neg hp,Nat.add_zero,ih]
   by_cases e:i=n
   ·subst e
    simp[hp]
   ·have:(i<n+1)↔(i<n):=by omega
    simp[this]
noncomputable def tb(m:Int)(i:Nat):Bool:=m.toNat.testBit i
theorem abG(k:Nat):((2^k:Nat):Int)=(2:Int)^k:=by rw[Int.natCast_pow];rfl
theorem acL(k:Nat):(0:Int)<2^k:=by rw[←abG];exact Int.natCast_pos.mpr (Nat.two_pow_pos k)
theorem auG{m:Int}(h:0<=m)(k:Nat):m / 2^k=((m.toNat >>> k:Nat):Int):=by
 obtain⟨n,rfl⟩:=bH h
 rw[bP,Nat.shiftRight_eq_div_pow,←abG,Int.natCast_ediv]
theorem aoP(a b:Nat):Builtin.bitAnd (a:Int) (b:Int)=((a&&& b:Nat):Int):=bitAnd_pp (cV a) (cV b)
theorem aoQ(a b:Nat):Builtin.bitOr (a:Int) (b:Int)=((a||| b:Nat):Int):=by
 rw[bitOr_and,aoP]
 have:=nat_or_add_and a b
 omega
theorem adQ{m:Int}(h:0<=m)(k:Nat):(Builtin.bitAnd (m / 2^k) 1=1)↔tb m k=true:=by
 rw[auG h,show (1:Int)=((1:Nat):Int) from rfl,aoP]
 unfold tb
 rw[Nat.testBit_eq_decide_div_mod_eq,Nat.shiftRight_eq_div_pow]
 have:m.toNat / 2^k&&& 1=m.toNat / 2^k%2:=Nat.and_two_pow_sub_one_eq_mod _ 1
 rw[this]
 simp only[d7]
 omega
theorem agU{a b:Int}(ha:0<=a)(hb:0<=b):0<=Builtin.bitAnd a b:=by rw[bitAnd_pp ha hb];exact cV _
theorem agG{a b:Int}(ha:0<=a)(hb:0<=b):0<=Builtin.bitOr a b:=by
 obtain⟨x,rfl⟩:=bH ha
 obtain⟨y,rfl⟩:=bH hb
 rw[aoQ]
 exact cV _
theorem adA{a b:Int}(ha:0<=a)(hb:0<=b)(i:Nat):tb (Builtin.bitAnd a b) i=(tb a i&&tb b i):=by
 unfold tb
 rw[bitAnd_pp ha hb,bP,Nat.testBit_and]
theorem alQ{a b:Int}(ha:0<=a)(hb:0<=b)(i:Nat):tb (Builtin.bitOr a b) i=(tb a i||tb b i):=by
 obtain⟨x,rfl⟩:=bH ha
 obtain⟨y,rfl⟩:=bH hb
 unfold tb
 rw[aoQ,bP,Nat.testBit_or,bP,bP]
theorem aDN(k i:Nat):tb (2^k) i=decide (k=i):=by
 unfold tb
 rw[←abG,bP,Nat.testBit_two_pow]
theorem acJ(i:Nat):tb 0 i=false:=by unfold tb;simp
theorem abZ{a b:Int}(ha:0<=a)(hb:0<=b)(h:∀i,tb a i=tb b i):a=b:=by
 have:a.toNat=b.toNat:=Nat.eq_of_testBit_eq h
 omega
theorem aFA{m:Int}(h:0<=m)(k i:Nat):tb (m*2^k) i=(decide (k<=i)&&tb m (i-k)):=by
 obtain⟨x,rfl⟩:=bH h
 unfold tb
 rw[←abG,←Int.natCast_mul,bP,bP,←Nat.shiftLeft_eq,Nat.testBit_shiftLeft]
theorem azJ{m:Int}(h:0<=m)(k i:Nat):tb (m / 2^k) i=tb m (k+i):=by
 rw[auG h]
 unfold tb
 rw[bP,Nat.testBit_shiftRight]
theorem akL{m:Int}{n i:Nat}(h:m<2^n)(hi:n<=i):tb m i=false:=by
 unfold tb
 refine Nat.testBit_lt_two_pow (a9 ?_ (Nat.pow_le_pow_right (by decide) hi))
 by_cases h0:0<=m
 ·have:=abG n
  omega
 ·have:m.toNat=0:=by omega
  rw[this]
  exact Nat.two_pow_pos n
@[irreducible] noncomputable def mk_(p:Nat->Bool)(n:Nat):Int:=(cnt p n:Nat)
theorem an5(p:Nat->Bool)(n:Nat):mk_ p n=(cnt p n:Nat):=by rw[mk_]
theorem avC(p:Nat->Bool)(n:Nat):0<=mk_ p n:=by rw[an5];exact cV _
theorem azZ(p:Nat->Bool):mk_ p 0=0:=by rw[an5,amE];rfl
theorem au5(p:Nat->Bool)(n i:Nat):tb (mk_ p n) i=(decide (i<n)&&p i):=by
 unfold tb
 rw[an5,bP,avJ]
theorem au0(p:Nat->Bool)(n:Nat):mk_ p (n+1)=mk_ p n+(if p n=true then 2^n else 0):=by
 rw[an5,an5,alT,Int.natCast_add]
 split
 ·rw[abG]
 ·rfl
theorem axY(p:Nat->Bool)(n:Nat):mk_ p n<2^n:=by
 have:=at2 p n
 have e:=abG n
 rw[an5]
 omega
theorem ap1(n i:Nat):tb (2^n-1) i=decide (i<n):=by
 have h:=abG n
 have:((2:Int)^n-1).toNat=2^n-1:=by
  have:=Nat.two_pow_pos n
  omega
 unfold tb
 rw[this,Nat.testBit_two_pow_sub_one]
noncomputable def aOU(p:Nat->Bool)(lo:Int):Nat->List Int
 |0=>[]
 |n+1=>aOU p lo n++(if p n=true then [lo+(n:Int)] else [])
@[irreducible] noncomputable def flt(p:Nat->Bool)(lo:Int)(n:Nat):List Int:=aOU p lo n
theorem asF(p:Nat->Bool)(lo:Int):flt p lo 0=[]:=by rw[flt];rfl
theorem az9{p:Nat->Bool}{lo:Int}{α:Type}{f:Int->α}:[]=(flt p lo 0).map f:=by rw[asF];rfl
theorem arN(p:Nat->Bool)(lo:Int)(n:Nat):flt p lo (n+1)=flt p lo n++(if p n=true then [lo+(n:Int)] else []):=by rw[flt,flt];rfl
theorem auO{p:Nat->Bool}{lo:Int}{n:Nat}(h:p n=true):flt p lo (n+1)=flt p lo n++[lo+(n:Int)]:=by
 rw[arN,if_pos h]
theorem atZ{p:Nat->Bool}{lo:Int}{n:Nat}(h:p n=false):flt p lo (n+1)=flt p lo n:=by
 rw[arN,h,if_neg bC,cS]
theorem flt_mem{p:Nat->Bool}{lo z:Int}:∀{n:Nat},z∈flt p lo n↔∃i,i<n/\p i=true/\z=lo+(i:Int)
 |0=>by rw[asF];exact⟨fun h=>(nomatch h),fun ⟨i,h,_⟩=>absurd h (Nat.not_lt_zero i)⟩
 |n+1=>by
  by_cases c:p n=true
  ·rw[auO c,bZ,flt_mem,bQ]
   refine⟨fun h=>?_,fun ⟨i,h1,h2,h3⟩=>?_⟩
   ·rcases h with ⟨i,h1,h2,h3⟩ | h
    ·exact⟨i,by omega,h2,h3⟩
    ·exact⟨n,by omega,c,h⟩
   ·by_cases e:i=n
    ·subst e;exact .inr h3
    ·exact .inl ⟨i,by omega,h2,h3⟩
  ·rw[atZ (by simpa using c),flt_mem]
   refine⟨fun ⟨i,h1,h2,h3⟩=>⟨i,by omega,h2,h3⟩,fun ⟨i,h1,h2,h3⟩=>⟨i,?_,h2,h3⟩⟩
   have:i≠n:=fun e=>c (e▸h2)
   omega
theorem aFS{p:Nat->Bool}{lo:Int}{n k:Nat}(h:∀i,n<=i->p i=false)(hk:n<=k):flt p lo k=flt p lo n:=by
 obtain⟨d,rfl⟩:=Nat.exists_eq_add_of_le hk
 clear hk
 induction d with
 |zero=>rfl
 |succ d ih=>rw[show n+(d+1)=(n+d)+1 from rfl,atZ (h _ (by omega)),ih]
noncomputable def abY(zs:List Int):Int:=zs.foldl (fun a z=>Builtin.bitOr a (1*2^z.toNat)) 0
theorem asS(zs:List Int)(z:Int):abY (zs++[z])=Builtin.bitOr (abY zs) (1*2^z.toNat):=by unfold abY;rw[dF];rfl
theorem aoN:∀(zs:List Int) (a:Int),0<=a->0<=zs.foldl (fun a z=>Builtin.bitOr a (1*2^z.toNat)) a/\∀i,tb (zs.foldl (fun a z=>Builtin.bitOr a (1*2^z.toNat)) a) i=(tb a i||zs.any fun z=>decide (z.toNat=i))
 |[],a,h=>⟨h,fun i=>by simp⟩
 |z::zs,a,h=>by
  have e:(1*2^z.toNat:Int)=2^z.toNat:=by omega
  have p:=Int.le_of_lt (acL z.toNat)
  obtain⟨h1,h2⟩:=aoN zs (Builtin.bitOr a (1*2^z.toNat)) (by rw[e];exact agG h p)
  refine⟨h1,fun i=>?_⟩
  show tb (zs.foldl _ (Builtin.bitOr a (1*2^z.toNat))) i=_
  rw[h2 i,e,alQ h p,aDN,cG,Bool.or_assoc]
theorem aeJ(zs:List Int):0<=abY zs:=(aoN zs 0 (a8 0)).1
theorem ahM(zs:List Int)(i:Nat):tb (abY zs) i=zs.any fun z=>decide (z.toNat=i):=by
 have h:=(aoN zs 0 (a8 0)).2 i
 rw[acJ,Bool.false_or] at h
 exact h
theorem aA4{m:Int}(h:0<=m):m<2^Builtin.Int.intBits m:=by
 unfold Builtin.Int.intBits
 split
 ·rename_i c
  have:m=0:=by simpa using c
  rw[this]
  decide
 ·have:=Nat.lt_log2_self (n:=m.natAbs)
  have e:=abG (m.natAbs.log2+1)
  omega
theorem ao0{m:Int}{n:Nat}(h:0<=m)(hn:m<2^n):Builtin.Int.intBits m<=n:=by
 unfold Builtin.Int.intBits
 split
 ·exact bM _
 ·rename_i c
  have h0:m≠0:=by simpa using c
  have e:=abG n
  have:m.natAbs.log2<n:=(Nat.log2_lt (by omega)).mpr (by omega)
  omega
noncomputable def aBG(m:Int):List Int:=flt (tb m) 0 (Builtin.Int.intBits m)
theorem az1{m:Int}{n:Nat}(h:0<=m)(hn:m<2^n):aBG m=flt (tb m) 0 n:=
 (aFS (fun i hi=>akL (aA4 h) hi) (ao0 h hn)).symm
theorem azW{m:Int}(h:0<=m)(k:Nat):decide (Builtin.bitAnd (m / 2^k) 1=1)=tb m k:=by
 by_cases c:tb m k=true
 ·rw[c];exact d6 ((adQ h _).mpr c)
 ·have c':tb m k=false:=by simpa using c
  rw[c'];exact d8 fun q=>c ((adQ h _).mp q)
end L2
namespace L2
open PySem PyProof.Rows
theorem aCI{a b:Int}{n:Nat}(ha:0<=a)(hb:0<=b)(h1:a<2^n)(h2:b<2^n):Builtin.bitOr a b<2^n:=by
 obtain⟨x,rfl⟩:=bH ha
 obtain⟨y,rfl⟩:=bH hb
 have e:=abG n
 have:x||| y<2^n:=Nat.or_lt_two_pow (by omega) (by omega)
 rw[aoQ]
 omega
section
variable{X:Cx}{tg:Expr}
theorem avO{a b c:Int}(hc:0<c):0<=Builtin.Range.rangeSize a b c:=by
 unfold Builtin.Range.rangeSize
 rw[if_pos hc]
 split
 ·have:0<=(b-a-1) / c:=Int.ediv_nonneg (by omega) (by omega)
  omega
 ·exact a8 0
end
noncomputable def aAA(a:Addr)(lo hi st:Int):HO:=.ext fun h=>∃t u v,h.get? a=some {cls:=.type "range",data:=.fields #[.int lo t,.int hi u,.int st v]}
section
variable{X:Cx}
theorem azG{pins:List (Addr×Obj)}{σ:St}{H:Hp}{s:Shared}{Q:VK}{lo hi st:Int}{t u v:Tok}{tk:Nat}(I:Inv X pins σ H s)(q:∀p,H p=none->Q (.ref p) (upd H p (aAA p lo hi st))):
  EP X pins σ Q (.ref s.heap.objs.size) {s with heap:=s.heap.push {cls:=.type "range",data:=.fields #[.int lo t,.int hi u,.int st v]},toks:=tk}:=by
 refine⟨.ref s.heap.objs.size,upd H s.heap.objs.size (aAA s.heap.objs.size lo hi st),I.laid (t':=tk) (fun b u e=>bB _ e) (aV _) ?_,rfl,q _ (I.hok.fresh (aV _))⟩
 have e:=bL s.heap (o:={cls:=.type "range",data:=.fields #[.int lo t,.int hi u,.int st v]}) rfl
 exact⟨⟨t,u,v,e⟩,⟨_,e⟩,fun h1 h2 ⟨t,u,v,z⟩ k=>⟨t,u,v,k _ z⟩⟩
theorem cRg3:Cl1 X (.type "range") (fun xs H Q=>∃i j c,xs=[.int i,.int j,.int c]/\(0<c/\c<1073741824)/\∀p,H p=none->Q (.ref p) (upd H p (aAA p i j c))):=by
 refine⟨fun pins s σ H xs us Q I r h=>?_⟩
 obtain⟨i,j,c,rfl,⟨c0,c1⟩,q⟩:=h
 cases r with
 |cons r rr=>
  cases rr with
  |cons r' rr=>
   cases rr with
   |cons r'' rr=>
    cases rr
    obtain⟨t,rfl⟩:=r
    obtain⟨t',rfl⟩:=r'
    obtain⟨t'',rfl⟩:=r''
    exact call_range_3 (Int.ne_of_gt c0) (azG I q) (.inl (PyProof.noPylong_small (by omega)))
theorem as9{lo st:Int}:∀{n:Nat} {acc:Array Value},ItemsOf (fun i v=>∃t,v=.int (lo+i*st) t) acc n->Vals ((List.range n).map fun i:Nat=>V.int (lo+i*st)) acc.toList:=by
 intro n acc h
 obtain⟨hz,hi⟩:=h
 have key:∀(m:Nat),m<=n->Vals ((List.range m).map fun i:Nat=>V.int (lo+i*st)) (acc.toList.take m):=by
  intro m
  induction m with
  |zero=>intro _;exact .nil
  |succ m ih=>
   intro hm
   have hlt:m<acc.toList.length:=by rw[dC];omega
   obtain⟨t,e⟩:=hi m acc.toList[m] (by rw[←Array.getElem?_toList];exact cH hlt)
   rw[cC,aZ,bK,cH hlt]
   exact (ih (by omega)).append (.cons ⟨t,e⟩ .nil)
 have:=key n (aV _)
 rwa [dP (by rw[dC];omega)] at this
theorem cLR(hc:X.calm=true:=by rfl):Cl1 X (.type "list") (fun xs H Q=>∃(p:Addr) (lo hi st:Int) (n:Nat),xs=[.ref p]/\H p=some (aAA p lo hi st)/\Builtin.Range.small lo hi st=true/\Builtin.Range.rangeSize lo hi st=(n:Int)/\n<=100000/\
  ∀l,H l=none->Q (.ref l) (upd H l (.lst ((List.range n).map fun i:Nat=>V.int (lo+i*st))))):=by
 refine⟨fun pins s σ H xs us Q I r h=>?_⟩
 obtain⟨p,lo,hi,st,n,rfl,hp,hs,hn,hl,q⟩:=h
 obtain⟨u,rfl,rx⟩:=acK r
 cases rx
 obtain⟨⟨t,u,v,e⟩,_,_⟩:=I.hok p _ hp
 refine call_list_range (I.ok.hd hc) e hs hn (bT hl (by decide)) fun h' tk acc c' kp hS hI=>?_
 have hz:((List.range n).map fun i:Nat=>V.int (lo+i*st)).length<=sizeLine:=by
  rw[aU,dG,dY]
  omega
 exact⟨.ref s.heap.objs.size,_,I.laid (t':=tk) kp (aV _) (show ObjOk X.prog X.w _ h' _ (.lst _) from ⟨hz,acc.toList,c',as9 hI,by simpa using hS⟩),rfl,q _ (I.hok.fresh (aV _))⟩
noncomputable def rBL:V->List V->Hp->VK->Prop:=fun x vs H Q=>∃i,x=.int i/\vs=[]/\Q (.int (Builtin.Int.intBits i:Nat)) H
theorem aKU:MtR X "int.bit_length" rBL:=by
 intro pins s σ H x xs v us Q I rx rv h
 obtain⟨i,rfl,rfl,q⟩:=h
 cases rv
 obtain⟨t,rfl⟩:=rx
 exact call_int_bit_length ⟨.int _,H,I.tok _,⟨_,rfl⟩,q⟩
theorem eBL{o:Expr}{to:TE}{apos cpos:Pos}(ho:E X o to)(hbase:attributeBase o "bit_length" X.env (eval o X.env)=eval o X.env:=by rfl)(hline:(apos.endLine==cpos.line)=true:=by rfl):
  E X (.Call (.Attribute o "bit_length" apos) [] [] cpos) (aKO X.K "int" rBL to):=⟨aDT PySem.F.plainAttrs_int PySem.F.slot_int_bit_length PySem.F.type_int_bit_length aKU ho.h hbase hline⟩
theorem cTup:Cl1 X (.type "tuple") (fun xs H Q=>∃p ys,xs=[.ref p]/\((SqL X.K H p ys/\∀l,H l=none->Q (.ref l) (upd H l (.tup ys)))∨(SqT X.K H p ys/\Q (.ref p) H))):=⟨am0⟩
theorem oXor:Op2 X (binaryOp .BitXor) (rI0 fun i j=>.int (Builtin.bitXor i j)):=⟨aFJ⟩
theorem oInv:Op1 X (unaryOp .Invert) (rU fun i=>.int (Builtin.bitNot i)):=⟨aDQ⟩
theorem aiE:Op2 X (compareOp .Is) (fun x y H Q=>y=.non/\Q (.bl (decide (x=.non))) H):=⟨aFE⟩
theorem aPE:Op2 X (compareOp .IsNot) (fun x y H Q=>y=.non/\Q (.bl (!decide (x=.non))) H):=⟨aBF⟩
theorem oIn:Op2 X (compareOp .In) (rIn X.K false):=⟨avZ⟩
end
theorem Same.none{H H':Hp}{D:Addr}(s:Same H H')(h:H' D=none):H D=none:=by
 cases e:H D with
 |none=>rfl
 |some o=>exact absurd (h.symm.trans (s _ _ e)) (by simp)
noncomputable def Keep(H H':Hp):Prop:=∀b o,(∀xs,o≠ .lst xs)->H b=some o->H' b=some o
theorem Same.keep{H H':Hp}(s:Same H H'):Keep H H':=fun b o _ h=>s b o h
theorem ag9{H:Hp}{D:Addr}{l l':List V}(h:H D=some (.lst l)):Keep H (upd H D (.lst l')):=fun b o n hb=>by
 by_cases e:b=D
 ·subst e
  rw[h] at hb
  cases hb
  exact absurd rfl (n l)
 ·rw[aaE e]
  exact hb
theorem Keep.ins{H H':Hp}(k:Keep H H'){b C dx:Addr}{fs:List (Str×V)}(h:H b=some (.ins C dx fs)):H' b=some (.ins C dx fs):=k b _ (fun _ z=>nomatch z) h
section
variable{js:List Nat}{σ:St}{tt:TT}{te:TE}{Q:VK}{H1:Hp}
end
section
variable{X:Cx}{K:FG}
theorem xLc(hK:X.K=K:=by rfl):Ixs X (aDG K):=hK▸xL
end
inductive Kd where
 |int | bool | str | non | list | tuple | dict
noncomputable def Kd.nm:Kd->String
 |.int=>"int" | .bool=>"bool" | .str=>"str" | .non=>"NoneType" | .list=>"list" | .tuple=>"tuple" | .dict=>"dict"
noncomputable def Kd.isa:Kd->Kd->Bool
 |.int,.int=>true | .bool,.int=>true | .bool,.bool=>true | .str,.str=>true | .list,.list=>true | .tuple,.tuple=>true | .dict,.dict=>true | _,_=>false
noncomputable def aCH(K:FG)(H:Hp):V->Kd->Prop
 |.int _,k=>k=.int
 |.bl _,k=>k=.bool
 |.str _,k=>k=.str
 |.non,k=>k=.non
 |.ref a,k=>(k=.list/\∃xs,SqL K H a xs)∨(k=.tuple/\∃xs,SqT K H a xs)∨(k=.dict/\∃kvs,H a=some (.dK kvs))
 |_,_=>False
theorem cIs{X:Cx}:Cl1 X (.builtin "isinstance") (fun xs H Q=>∃(v:V) (n k:Kd),xs=[v,.ty n.nm]/\n.nm≠"NoneType"/\aCH X.K H v k/\Q (.bl (Kd.isa k n)) H):=by
 refine⟨fun pins s σ H xs us Q I r h=>?_⟩
 obtain⟨v,n,k,rfl,hn,hk,q⟩:=h
 obtain⟨u,w',rfl,r1,r2⟩:=aw5 r
 cases r2
 have fin:∀tk,EP X pins σ Q (.bool (Kd.isa k n)) {s with toks:=tk}:=fun tk=>⟨.bl _,H,I.tok _,rfl,q⟩
 have fin0:EP X pins σ Q (.bool (Kd.isa k n)) s:=⟨.bl _,H,I,rfl,q⟩
 cases v with
 |int i=>
  obtain⟨t,rfl⟩:=r1
  cases (show k=Kd.int from hk)
  cases n with
  |int=>exact PySem.IsiPair.int_int fin0
  |bool=>exact PySem.IsiPair.int_bool (fin _)
  |str=>exact PySem.IsiPair.int_str (fin _)
  |list=>exact PySem.IsiPair.int_list (fin _)
  |tuple=>exact PySem.IsiPair.int_tuple (fin _)
  |dict=>exact PySem.IsiPair.int_dict (fin _)
  |non=>exact absurd rfl hn
 |bl b=>
  cases r1
  cases (show k=Kd.bool from hk)
  cases n with
  |int=>exact PySem.IsiPair.bool_int fin0
  |bool=>exact PySem.IsiPair.bool_bool fin0
  |str=>exact PySem.IsiPair.bool_str (fin _)
  |list=>exact PySem.IsiPair.bool_list (fin _)
  |tuple=>exact PySem.IsiPair.bool_tuple (fin _)
  |dict=>exact PySem.IsiPair.bool_dict (fin _)
  |non=>exact absurd rfl hn
 |str x=>
  obtain⟨t,rfl⟩:=r1
  cases (show k=Kd.str from hk)
  cases n with
  |int=>exact PySem.IsiPair.str_int (fin _)
  |bool=>exact PySem.IsiPair.str_bool (fin _)
  |str=>exact PySem.IsiPair.str_str fin0
  |list=>exact PySem.IsiPair.str_list (fin _)
  |tuple=>exact PySem.IsiPair.str_tuple (fin _)
  |dict=>exact PySem.IsiPair.str_dict (fin _)
  |non=>exact absurd rfl hn
 |non=>
  cases r1
  cases (show k=Kd.non from hk)
  cases n with
  |int=>exact PySem.IsiPair.NoneType_int (fin _)
  |bool=>exact PySem.IsiPair.NoneType_bool (fin _)
  |str=>exact PySem.IsiPair.NoneType_str (fin _)
  |list=>exact PySem.IsiPair.NoneType_list (fin _)
  |tuple=>exact PySem.IsiPair.NoneType_tuple (fin _)
  |dict=>exact PySem.IsiPair.NoneType_dict (fin _)
  |non=>exact absurd rfl hn
 |ref a=>
  cases r1
  rcases hk with ⟨rfl,ys,hq⟩ | ⟨rfl,ys,hq⟩ | ⟨rfl,kvs,hq⟩
  ·obtain⟨its,rv,pl,_⟩:=I.list hq
   obtain⟨o,ho,hc,_⟩:=pl.isList
   cases n with
   |int=>exact PySem.IsiPair.list_int ho hc (fin _)
   |bool=>exact PySem.IsiPair.list_bool ho hc (fin _)
   |str=>exact PySem.IsiPair.list_str ho hc (fin _)
   |list=>exact PySem.IsiPair.list_list ho hc fin0
   |tuple=>exact PySem.IsiPair.list_tuple ho hc (fin _)
   |dict=>exact PySem.IsiPair.list_dict ho hc (fin _)
   |non=>exact absurd rfl hn
  ·obtain⟨its,rv,⟨o,ho,hc,_⟩,_⟩:=I.tuple hq
   cases n with
   |int=>exact PySem.IsiPair.tuple_int ho hc (fin _)
   |bool=>exact PySem.IsiPair.tuple_bool ho hc (fin _)
   |str=>exact PySem.IsiPair.tuple_str ho hc (fin _)
   |list=>exact PySem.IsiPair.tuple_list ho hc (fin _)
   |tuple=>exact PySem.IsiPair.tuple_tuple ho hc fin0
   |dict=>exact PySem.IsiPair.tuple_dict ho hc (fin _)
   |non=>exact absurd rfl hn
  ·obtain⟨_,_,_,_,o,_,_,ho,ex,_⟩:=I.hok a _ hq
   cases n with
   |int=>exact PySem.IsiPair.dict_int ho ex.1 (fin _)
   |bool=>exact PySem.IsiPair.dict_bool ho ex.1 (fin _)
   |str=>exact PySem.IsiPair.dict_str ho ex.1 (fin _)
   |list=>exact PySem.IsiPair.dict_list ho ex.1 (fin _)
   |tuple=>exact PySem.IsiPair.dict_tuple ho ex.1 (fin _)
   |dict=>exact PySem.IsiPair.dict_dict ho ex.1 fin0
   |non=>exact absurd rfl hn
 |byt b=>exact False.elim hk
 |flt b=>exact False.elim hk
 |ty n=>exact False.elim hk
end L2
namespace L2
open PySem PySem.Spec PyProof.Rows PySem.Builtin PySem.Builtin.Str
noncomputable abbrev Tx(l:List Nat):Str:=⟨l.toArray⟩
theorem Tx_inj{a b:List Nat}:Tx a=Tx b↔a=b:=⟨fun h=>by
 have:(Tx a).cps.toList=(Tx b).cps.toList:=by rw[h]
 simpa using this,fun h=>by rw[h]⟩
theorem aB8(x:Str):Tx x.cps.toList=x:=by cases x;simp
theorem abP(a:List Nat):(Tx a).length=a.length:=by simp[Str.length]
noncomputable def Itx(x:Str):It:=⟨fun i _=>i<x.cps.size,fun i H v H'=>H'=H/\∃c,x.cps[i]? =some c/\v=.str ⟨#[c]⟩,fun i _=>i=x.cps.size⟩
theorem awQ{P:Program}{w:World}{K:FG}{tg:Expr}(x:Str)(t:Tok)(it:Addr):Turn P w K tg (Itx x) [it] it (fun i h=>h.IsStrIter it "str_ascii_iterator" x t i) where
 mem:=by simp
 obj:=fun i h st b hb=>by
  have e:b=it:=by simpa using hb
  subst e
  obtain⟨o,e,c,d⟩:=st
  exact⟨o,e,fun v z=>by rw[d] at z;cases z⟩
 keep:=fun i h h' st k=>by
  obtain⟨o,e,r⟩:=st
  exact⟨o,k it (by simp) o e,r⟩
 item:=by
  intro X hP hw hK hc i pins s σ H E I hf st hg
  subst hP hw hK
  obtain⟨f0,f1,f2,f3,f4,f5⟩:=hf it (by simp)
  have hg:i<x.cps.size:=hg
  refine wpAny_pyNext_ascii_item st (c:=x.cps[i]) (by simp[hg]) fun h' st' sb=>?_
  have I1:Inv X pins σ H {s with heap:=h',toks:=s.toks+1}:=I.turned (fun b o hb e=>sb.extBut b o hb e) f0 f1 f3 f4 f5
  obtain⟨o,e,c,d⟩:=id st'
  exact⟨_,rfl,arH (s:={s with heap:=h',toks:=s.toks+1}) e c d (by decide) ⟨.str ⟨#[x.cps[i]]⟩,H,I1,⟨_,rfl⟩,⟨rfl,x.cps[i],by simp[hg],rfl⟩,st',fun b hb=>(hf b hb).1⟩⟩
 done:=by
  intro X hP hw hK hc i pins s σ H E I hf st hg
  subst hP hw hK
  obtain⟨f0,f1,f2,f3,f4,f5⟩:=hf it (by simp)
  have hg:i=x.cps.size:=hg
  exact wpAny_pyNext_ascii_end (I.ok.hd hc) st (by simp[hg]) fun h' eb=>⟨rfl,I.turned (t':=s.toks) (fun b o hb e=>eb b o hb e) f0 f1 f3 f4 f5⟩
 self:=fun _ _ _ _ _ st h=>wpAny_pyIter_striter_ascii st h
theorem av1{P:Program}{w:World}{K:FG}{tg:Expr}(x:Str)(t:Tok)(it:Addr):Turn P w K tg (Itx x) [it] it (fun i h=>h.IsStrIter it "str_iterator" x t i) where
 mem:=by simp
 obj:=fun i h st b hb=>by
  have e:b=it:=by simpa using hb
  subst e
  obtain⟨o,e,c,d⟩:=st
  exact⟨o,e,fun v z=>by rw[d] at z;cases z⟩
 keep:=fun i h h' st k=>by
  obtain⟨o,e,r⟩:=st
  exact⟨o,k it (by simp) o e,r⟩
 item:=by
  intro X hP hw hK hc i pins s σ H E I hf st hg
  subst hP hw hK
  obtain⟨f0,f1,f2,f3,f4,f5⟩:=hf it (by simp)
  have hg:i<x.cps.size:=hg
  refine wpAny_pyNext_wide_item st (c:=x.cps[i]) (by simp[hg]) fun h' st' sb=>?_
  have I1:Inv X pins σ H {s with heap:=h',toks:=s.toks+1}:=I.turned (fun b o hb e=>sb.extBut b o hb e) f0 f1 f3 f4 f5
  obtain⟨o,e,c,d⟩:=id st'
  exact⟨_,rfl,arH (s:={s with heap:=h',toks:=s.toks+1}) e c d (by decide) ⟨.str ⟨#[x.cps[i]]⟩,H,I1,⟨_,rfl⟩,⟨rfl,x.cps[i],by simp[hg],rfl⟩,st',fun b hb=>(hf b hb).1⟩⟩
 done:=by
  intro X hP hw hK hc i pins s σ H E I hf st hg
  subst hP hw hK
  obtain⟨f0,f1,f2,f3,f4,f5⟩:=hf it (by simp)
  have hg:i=x.cps.size:=hg
  exact wpAny_pyNext_wide_end (I.ok.hd hc) st (by simp[hg]) fun h' eb=>⟨rfl,I.turned (t':=s.toks) (fun b o hb e=>eb b o hb e) f0 f1 f3 f4 f5⟩
 self:=fun _ _ _ _ _ st h=>wpAny_pyIter_striter_wide st h
section
variable{X:Cx}{tg:Expr}
noncomputable def iTxt(tl:TE):TI:=fun σ H R=>tl σ H fun x H1=>∃z,x=.str z/\R (Itx z) H1
theorem iX{l:Expr}{tl:TE}(hl:E X l tl):Il X tg l (iTxt tl):=by
 refine⟨fun pins s σ H R I h=>?_⟩
 refine thn (hl.h pins s σ H _ I h) fun u s1 ⟨x,H1,I1,r1,q1⟩=>?_
 obtain⟨z,rfl,q⟩:=q1
 obtain⟨t,rfl⟩:=r1
 have fp:∀b∈[s1.heap.objs.size],adR X pins H1 b:=fun b hb=>by
  have e:b=s1.heap.objs.size:=by simpa using hb
  subst e
  exact I1.fpOk (aV _) (I1.hok.fresh (aV _))
 cases ha:z.cps.all (·<128)
 ·exact wpAny_pyIter_wide ha ⟨s1.heap.objs.size,[s1.heap.objs.size],_,_,H1,rfl,I1.kept (t':=s1.toks) fun b o e=>bB _ e,av1 z t _,⟨_,bL _ rfl,rfl,rfl⟩,fp,q⟩
 ·exact wpAny_pyIter_ascii ha ⟨s1.heap.objs.size,[s1.heap.objs.size],_,_,H1,rfl,I1.kept (t':=s1.toks) fun b o e=>bB _ e,awQ z t _,⟨_,bL _ rfl,rfl,rfl⟩,fp,q⟩
end
section
variable{js:List Nat}{σ:St}{tt:TT}{te:TE}{Q:VK}{H1:Hp}
theorem azB{xs:List Nat}(R:Nat->List V->Prop)(hn:xs.length<=sizeLine)(h0:R 0 [])
  (hs:∀(i:Nat) (c:Nat) (l:List V) (D:Addr) (H2:Hp) (E:V->Hp->Prop) (F:Hp->Prop),xs[i]? =some c->R i l->H1 D=none->Same H1 H2->H2 D=some (.lst l)->(∀y H5,Same H2 H5->R (i+1) (l++[y])->E y H5)->(∀H4,Same H2 H4->R (i+1) l->F H4)->
   tt (some (.str (Tx [c]))::aa3 js σ) H2 fun b H4=>if b=true then te (some (.str (Tx [c]))::aa3 js σ) H4 E else F H4)
  (hd:∀(D:Addr) (H2:Hp) (l:List V),R xs.length l->H1 D=none->Same H1 H2->H2 D=some (.lst l)->Q (.ref D) H2):ak4 (Itx (Tx xs)) js σ tt te Q H1:=by
 intro D hD
 have hz:(Tx xs).cps.size=xs.length:=by simp
 refine⟨fun i m H2=>m=xs.length-i/\i<=xs.length/\Same H1 H2/\∃l,H2 D=some (.lst l)/\l.length<=i/\R i l,⟨xs.length,by simp,bM _,aaB hD _,[],aaA,aV _,h0⟩,?_⟩
 rintro i m H2 ⟨rfl,hi,s2,l,h2,hll,hR⟩
 by_cases hlt:i<xs.length
 ·refine .inr ⟨show i<(Tx xs).cps.size by rw[hz];exact hlt,fun v H3 y=>?_⟩
  obtain⟨e,c,ec,ev⟩:=y
  subst e ev
  refine hs i c l D _ _ _ (by simpa using ec) hR hD s2 h2 (fun z H5 s5 r5=>?_) (fun H4 s4 r4=>?_)
  ·refine⟨l,s5 _ _ h2,cN hll (a9 hlt hn),xs.length-(i+1),by omega,rfl,hlt,fun b o hb=>?_,l++[z],aaA,by rw[aW,b8];omega,r5⟩
   rw[aaE (aaN hb hD)]
   exact s5 _ _ (s2 _ _ hb)
  ·exact⟨xs.length-(i+1),by omega,rfl,hlt,s2.trans s4,l,s4 _ _ h2,by omega,r4⟩
 ·have e:i=xs.length:=by omega
  subst e
  exact .inl ⟨show xs.length=(Tx xs).cps.size by rw[hz],hd D H2 l hR hD s2 h2⟩
end
section
variable{X:Cx}
theorem aq7{prog:Program}{w:World}{A:Around}{its:Array Value}{bs:List Bool}(r:Vals (bs.map V.bl) its.toList):TruthOf prog w A (fun i v=>its[i]? =some v) (fun i=>bs.getD i false):=by
 intro i v s Q E hv hq
 have hv':its.toList[i]? =some v:=by rw[Array.getElem?_toList];exact hv
 have hi:i<bs.length:=by
  have h1:=r.length
  rw[aU] at h1
  rcases Nat.lt_or_ge i its.toList.length with z | z
  ·omega
  ·rw[List.getElem?_eq_none z] at hv';cases hv'
 obtain⟨u,hu,ru⟩:=r.get (i:=i) (x:=V.bl bs[i]) (by rw[bE,cH hi];rfl)
 rw[hv'] at hu
 cases hu
 cases ru
 have e:bs.getD i false=bs[i]:=by simp[List.getD,cH hi]
 have hq:Q (bs.getD i false) s:=hq
 rw[e] at hq
 exact eE hq
theorem awM(bs:List Bool):(List.range bs.length).all (fun i=>bs.getD i false)=bs.all id:=by
 rw[cI,b9,b9]
 refine⟨fun h b hb=>?_,fun h i hi=>?_⟩
 ·obtain⟨i,hi,e⟩:=List.getElem_of_mem hb
  have:=h i (b6.mpr hi)
  rw[show bs.getD i false=bs[i] by simp[List.getD,cH hi],e] at this
  exact this
 ·have hi:=b6.mp hi
  rw[show bs.getD i false=bs[i] by simp[List.getD,cH hi]]
  exact h _ (List.getElem_mem hi)
theorem aFY(hc:X.calm=true:=by rfl):Cl1 X (.builtin "all") (fun xs H Q=>∃(p:Addr) (bs:List Bool),xs=[.ref p]/\SqL X.K H p (bs.map V.bl)/\Q (.bl (bs.all id)) H):=by
 refine⟨fun pins s σ H xs us Q I r h=>?_⟩
 obtain⟨p,bs,rfl,hq,q⟩:=h
 obtain⟨u,rfl,r1⟩:=acK r
 cases r1
 obtain⟨its,rv,pl,hz⟩:=I.list hq
 have hne:p≠s.heap.objs.size:=by
  obtain⟨o,ho,_⟩:=pl.isList
  exact bD (aY ho)
 refine call_all_walk (wpAny_pyIter_list pl.isList ⟨s.heap.objs.size,[s.heap.objs.size,p],[s.heap.objs.size],its.toArray.size,(fun i v=>its.toArray[i]? =some v),(fun i h=>h.IsListIter s.heap.objs.size p i/\h.IsList p its.toArray),(fun i=>bs.getD i false),rfl,Walks.list (prog:=X.prog) (w:=X.w) (A:=X.A.in1) (I.ok.hd hc) _ p hne its.toArray,⟨⟨_,bL _ rfl,rfl,rfl⟩,pl.isList.push _⟩,aq7 (by simpa using rv),fun h' tk hk=>?_⟩)
 have hl:=rv.length
 rw[aU] at hl
 have e:its.toArray.size=bs.length:=by rw[bG];omega
 rw[e,awM]
 exact⟨.bl _,H,I.kept fun b o eb=>hk b o (by simpa using bD (aY eb)) (bB _ eb),rfl,q⟩
end
end L2
namespace L2
open PySem PySem.Spec PyProof.Rows PySem.Builtin PySem.Builtin.Str
noncomputable def spl(c:Nat):List Nat->List (List Nat)
 |[]=>[[]]
 |x::r=>if x=c then []::spl c r else match spl c r with
  |h::t=>(x::h)::t
  |[]=>[[x]]
noncomputable def aa1(c:Nat):List (List Nat)->List Nat
 |[]=>[]
 |[p]=>p
 |p::r=>p++c::aa1 c r
theorem aEF(c:Nat):∀l,spl c l≠[]
 |[]=>by simp[spl]
 |x::r=>by
  unfold spl
  split
  ·simp
  ·split<;>simp
theorem adL(c:Nat):∀(p:List Nat),c∉p->spl c p=[p]
 |[],_=>rfl
 |x::r,h=>by
  have h1:¬x=c:=fun e=>h (by simp[e])
  have h2:=adL c r fun e=>h (by simp[e])
  unfold spl
  rw[if_neg h1,h2]
theorem akX(c:Nat):∀(p r:List Nat),c∉p->spl c (p++c::r)=p::spl c r
 |[],r,_=>by
  show spl c (c::r)=_
  unfold spl
  rw[if_pos rfl]
  cases r<;>rfl
 |x::q,r,h=>by
  have h1:¬x=c:=fun e=>h (by simp[e])
  have h2:=akX c q r fun e=>h (by simp[e])
  show spl c (x::(q++c::r))=_
  rw[spl,if_neg h1,h2]
theorem aeL(c:Nat):∀(ps:List (List Nat)),ps≠[]->(∀p∈ps,c∉p)->spl c (aa1 c ps)=ps
 |[],h,_=>absurd rfl h
 |[p],_,h=>adL c p (h p (by simp))
 |p::q::r,_,h=>by
  show spl c (p++c::aa1 c (q::r))=_
  rw[akX c p _ (h p (by simp)),aeL c (q::r) (by simp) fun z hz=>h z (bF _ hz)]
theorem ao2(c:Nat):∀ps:List Str,(Str.join (Tx [c]) ps).cps.toList=aa1 c (ps.map (·.cps.toList))
 |[]=>rfl
 |[p]=>rfl
 |p::q::r=>by
  have ih:=ao2 c (q::r)
  show (p++Tx [c]++Str.join (Tx [c]) (q::r)).cps.toList=p.cps.toList++c::aa1 c ((q::r).map (·.cps.toList))
  rw[←ih]
  show ((p.cps++ #[c])++(Str.join (Tx [c]) (q::r)).cps).toList=_
  simp
theorem axP(x y:Str)(h:Txt.split x y=[]):False:=by
 unfold Txt.split at h
 split at h
 ·cases h
 ·split at h
  ·cases h
  ·have e:=congrArg List.length h
   rw[length_partsBetween] at e
   simp at e
theorem axD(l:List Nat)(c:Nat):(Txt.split (Tx l) (Tx [c])).map (·.cps.toList)=spl c l:=by
 have h1:=StrLaws.join_split (Tx l) (Tx [c])
 have h2:=StrLaws.split_free (Tx l) c
 have h3:=ao2 c (Txt.split (Tx l) (Tx [c]))
 rw[h1] at h3
 have e:aa1 c ((Txt.split (Tx l) (Tx [c])).map (·.cps.toList))=l:=by rw[←h3]
 rw[←aeL c ((Txt.split (Tx l) (Tx [c])).map (·.cps.toList)) (fun z=>axP _ _ (List.map_eq_nil_iff.mp z)) ?_,e]
 intro p hp
 obtain⟨z,hz,rfl⟩:=bR.mp hp
 exact h2 z hz
theorem awJ(l:List Nat)(c:Nat):Txt.split (Tx l) (Tx [c])=(spl c l).map Tx:=by
 rw[←axD,cD]
 have:∀ps:List Str,ps=ps.map ((fun w:List Nat=>Tx w) ∘ fun x=>x.cps.toList):=fun ps=>by
  induction ps with
  |nil=>rfl
  |cons a r ih=>rw[bI,←ih];simp
 exact this _
theorem aoH:∀l:List (Str×Tok),Vals (l.map fun p=>V.str p.1) (strValues l)
 |[]=>.nil
 |p::r=>.cons ⟨p.2,rfl⟩ (aoH r)
section
variable{prog:Program}{w:World}{A:Around}{E:Value->Shared->Prop}{s:Shared}{x y:Str}{t u:Tok}{Q:Value->Shared->Prop}
theorem atS(hy:(y.length==0)=false)(hsz:x.length+2<=sizeLine)
  (h:∀l k,l.map (·.1)=Txt.split x y->Q (.ref s.heap.objs.size) {s with heap:=s.heap.push {cls:=.type "list",data:=.seq (strValues l).toArray},toks:=k}):
  wpAny (model prog w) A (call (.builtin "str.split") [.str x t,.str y u]) Q E s:=by
 have hn:(partsBetween x (occurrences x y 0 x.length (x.length+1)) y.length).length<=sizeLine:=by
  have e1:=StrLaws.occ_length_le x y 0 x.length (x.length+1)
  rw[length_partsBetween];omega
 cases h1:(decide (x.length<y.length)||decide (strKind x<strKind y))
 ·cases hf:(occurrences x y 0 x.length (x.length+1)).isEmpty
  ·refine call_meets F.slot_str_split (typeIs_str _ _ _) F.entry_str_split (F.args_str_split_2 _ _) (meets_str_split_sep x y t u h1 hy hf (by omega) hn) ?_
   show wants Q E _ {s with toks:=_,heap:=s.heap.push {cls:=.type "list",data:=.seq (strsFrom s.toks (partsBetween x (occurrences x y 0 x.length (x.length+1)) y.length)).toArray} }
   rw[strsFrom_eq]
   exact h (numbered s.toks _) _ ((numbered_texts _ _).trans ((if_neg (ne_true_of_eq_false h1)).trans (if_neg (ne_true_of_eq_false hf))).symm)
  ·exact call_meets F.slot_str_split (typeIs_str _ _ _) F.entry_str_split (F.args_str_split_2 _ _) (meets_str_split_not_found x y t u h1 hy hf)
    (h [(x,t)] s.toks ((if_neg (ne_true_of_eq_false h1)).trans (if_pos hf)).symm)
 ·exact call_meets F.slot_str_split (typeIs_str _ _ _) F.entry_str_split (F.args_str_split_2 _ _) (meets_str_split_cannot_occur x y t u h1)
   (h [(x,t)] s.toks (if_pos h1).symm)
end
theorem ahC(c:Nat):∀l,(spl c l).length<=l.length+1
 |[]=>by simp[spl]
 |x::r=>by
  have ih:=ahC c r
  unfold spl
  split
  ·simp;omega
  ·split
   ·rename_i e;rw[e] at ih;simp at ih ⊢;omega
   ·simp
section
variable{X:Cx}
noncomputable def azR:V->List V->Hp->VK->Prop:=fun x vs H Q=>∃(l:List Nat) (c:Nat),x=.str (Tx l)/\vs=[.str (Tx [c])]/\l.length+2<=sizeLine/\∀p,H p=none->Q (.ref p) (upd H p (.lst ((spl c l).map fun q=>V.str (Tx q))))
theorem ax5:MtR X "str.split" azR:=by
 intro pins s σ H x xs v us Q I rx rv h
 obtain⟨l,c,rfl,rfl,hz,q⟩:=h
 obtain⟨u,rfl,t',rfl⟩:=acK rv
 obtain⟨t,rfl⟩:=rx
 refine atS (by rfl) (by rw[abP];exact hz) fun ps k e=>?_
 have e2:ps.map (fun p=>V.str p.1)=(spl c l).map fun q=>V.str (Tx q):=by
  have:=congrArg (List.map V.str) e
  rw[awJ,cD,cD] at this
  exact this
 have hl:((spl c l).map fun q=>V.str (Tx q)).length<=sizeLine:=by
  have:=ahC c l
  rw[aU]
  omega
 refine⟨.ref s.heap.objs.size,upd H s.heap.objs.size (.lst ((spl c l).map fun q=>V.str (Tx q))),I.laid (t':=k) (fun b u e=>bB _ e) (aV _) ?_,rfl,q _ (I.hok.fresh (aV _))⟩
 exact⟨hl,strValues ps,0,by rw[←e2];exact aoH ps,bL _ rfl⟩
theorem avU{o e:Expr}{to te:TE}{apos cpos:Pos}(ho:E X o to)(he:E X e te)(hbase:attributeBase o "split" X.env (eval o X.env)=eval o X.env:=by rfl)
  (hfew:((backTo cpos (starEach [e] X.env)).all (fun x=> !x.1)&&(backToKw cpos (keywordEach [] X.env)).all (fun x=>x.1.isSome)&&decide (([e]:List Expr).length+([]:List Keyword).length+(if ([]:List Keyword).isEmpty then 0 else 1)<30))=true:=by rfl)
  (hline:(apos.endLine==cpos.line)=true:=by rfl) (hs:starEach [e] X.env=(false,eval e X.env)::starEach [] X.env:=by rfl) (hplain:(backTo cpos (starEach [] X.env)).any (·.1)=false:=by rfl):
  E X (.Call (.Attribute o "split" apos) [e] [] cpos) (tBM X.K "str" azR to (ac0 te adJ)):=
 ⟨aqX PySem.F.plainAttrs_str PySem.F.slot_str_split PySem.F.type_str_split ax5 ho.h (acB he.h ac7 hs) hbase hfew hline hs hplain⟩
theorem oInX:Op2 X (compareOp .In) (fun x y H Q=>∃(c:Nat) (l:List Nat),x=.str (Tx [c])/\y=.str (Tx l)/\Q (.bl (decide (c∈l))) H):=by
 refine⟨fun pins s σ H x y v u Q I rx ry h=>?_⟩
 obtain⟨c,l,rfl,rfl,q⟩:=h
 refine awA pins s σ H _ _ v u Q I rx ry ⟨_,_,rfl,rfl,?_⟩
 rw[show (!(occurrences (Tx l) (Tx [c]) 0 (Tx l).length 1).isEmpty)=decide (c∈(Tx l).cps.toList) from StrLaws.found_one (Tx l) c]
 exact q
theorem azH:Cl1 X (.builtin "len") (fun xs H Q=>∃l:List Nat,xs=[.str (Tx l)]/\l.length<=sizeLine/\Q (.int l.length) H):=by
 refine⟨fun pins s σ H xs us Q I r h=>?_⟩
 obtain⟨l,rfl,hz,q⟩:=h
 refine apJ pins s σ H _ us Q I r ⟨Tx l,rfl,by rw[abP];exact hz,?_⟩
 rw[abP]
 exact q
theorem abO:Op2 X (binaryOp .Add) (fun x y H Q=>∃a b:List Nat,x=.str (Tx a)/\y=.str (Tx b)/\a.length+b.length<=sizeLine/\Q (.str (Tx (a++b))) H):=by
 refine⟨fun pins s σ H x y v u Q I rx ry h=>?_⟩
 obtain⟨a,b,rfl,rfl,hz,q⟩:=h
 refine asU pins s σ H _ _ v u Q I rx ry ⟨_,_,rfl,rfl,by rw[abP,abP];exact hz,?_⟩
 have e:Tx a++Tx b=Tx (a++b):=by show Str.mk _=Str.mk _;simp
 rw[e]
 exact q
theorem xX:Ixs X (fun x y H Q=>∃(l:List Nat) (i:Int) (c:Nat),x=.str (Tx l)/\y=.int i/\l.length<=sizeLine/\atI l i=some c/\Q (.str (Tx [c])) H):=by
 refine⟨fun value slice pins s σ H x y v u Q I rx ry h hs=>?_⟩
 obtain⟨l,i,c,rfl,rfl,hz,ha,q⟩:=h
 exact aEM value slice pins s σ H _ _ v u Q I rx ry ⟨Tx l,i,c,rfl,rfl,by rw[abP];exact hz,by simpa using ha,q⟩ hs
end
end L2
namespace L2
open PySem PySem.Spec PyProof.Rows PySem.Builtin PySem.Builtin.Str
section
variable{X:Cx}{pins:List (Addr×Obj)}{σ:St}{H:Hp}{s:Shared}{h':Heap}
theorem Inv.turnT{ch:List Addr}{T:Addr}{o:HO}{t':Nat}(I:Inv X pins σ H s)(k:∀b u,b∉ch->s.heap.get? b=some u->h'.get? b=some u)(hch:∀b∈ch,adR X pins H b)(hT:s.heap.objs.size<=T)(new:ObjOk X.prog X.w (upd H T o) h' T o):
  Inv X pins σ (upd H T o) {s with heap:=h',toks:=t'}:=by
 have hn:=I.hok.fresh hT
 have nit:∀b u,H b=some u->b∉ch:=fun b u e z=>by rw[(hch b z).1] at e;cases e
 refine I.step (g':=s.gens) (d':=s.drawn) (ch:=ch) (fun b hb=>?_) (fun b u _ _ hc e _=>k b u hc e) (fun b u _ _ hc e _=>⟨u.slots,k b u hc e⟩) (fun b u _ e n=>?_)
  (fun b u hc e=>⟨u,k b u hc e⟩) (fun b xs e=>by rw[aaE (aaN e hn)];exact e) (fun b u xs e=>by rw[aaE (aaN e hn)];exact e) (fun b ps e=>⟨#[],by rw[aaE (aaN e hn),e];simp⟩) (fun m hm=>?_) (fun b u e=>?_) I.bare
 ·obtain⟨f0,f1,f2,f3,f4,f5⟩:=hch b hb
  exact⟨f3,f1,f4,f5⟩
 ·rw[aaE (bD (a9 (aY e) hT))]
  exact n
 ·obtain⟨ob,es,ep,ho,r⟩:=hm
  exact⟨ob,es,ep,k _ ob (fun z=>(hch _ z).2.1 rfl) ho,r⟩
 ·by_cases hb:b=T
  ·subst hb;rw[aaA] at e;cases e;exact new
  ·rw[aaE hb] at e
   refine (I.hok b u e).stay (fun c v hc q=>k c v ?_ q) (fun c q=>by rw[aaE (aaN q hn)];exact q) fun c xs q=>by rw[aaE (aaN q hn)];exact q
   rcases hc with z | z
   ·rw[z];exact nit b u e
   ·exact nit c _ z
theorem Inv.turnN{ch:List Addr}{t':Nat}(I:Inv X pins σ H s)(k:∀b u,b∉ch->s.heap.get? b=some u->h'.get? b=some u)(hch:∀b∈ch,adR X pins H b):Inv X pins σ H {s with heap:=h',toks:=t'}:=by
 have nit:∀b u,H b=some u->b∉ch:=fun b u e z=>by rw[(hch b z).1] at e;cases e
 refine I.step (g':=s.gens) (d':=s.drawn) (ch:=ch) (fun b hb=>?_) (fun b u _ _ hc e _=>k b u hc e) (fun b u _ _ hc e _=>⟨u.slots,k b u hc e⟩) (fun b u _ e n=>n)
  (fun b u hc e=>⟨u,k b u hc e⟩) (fun b xs e=>e) (fun b u xs e=>e) (fun b ps e=>⟨#[],by rw[e];simp⟩) (fun m hm=>?_) (fun b u e=>?_) I.bare
 ·obtain⟨f0,f1,f2,f3,f4,f5⟩:=hch b hb
  exact⟨f3,f1,f4,f5⟩
 ·obtain⟨ob,es,ep,ho,r⟩:=hm
  exact⟨ob,es,ep,k _ ob (fun z=>(hch _ z).2.1 rfl) ho,r⟩
 ·refine (I.hok b u e).stay (fun c v hc q=>k c v ?_ q) (fun c q=>q) fun c xs q=>q
  rcases hc with z | z
  ·rw[z];exact nit b u e
  ·exact nit c _ z
end
noncomputable def Ite(K:FG)(a:Addr):It:=
 ⟨fun i H=>∃xs x,SqL K H a xs/\xs[i]? =some x,fun i H v H'=>∃T,v=.ref T/\H T=none/\∀xs,SqL K H a xs->∃x,xs[i]? =some x/\H'=upd H T (.tup [.int i,x]),fun i H=>∃xs,SqL K H a xs/\xs.length=i⟩
theorem avX{P:Program}{w:World}{K:FG}{es:List Expr}{kk:Nat}{pos:Pos}(a e it:Addr)(hne:e≠it):Turn P w K (.Tuple es kk pos) (Ite K a) [e,it] e (fun i h=>(∃old,IsEnum h e it i old)/\h.IsListIter it a i) where
 mem:=by simp
 obj:=fun i h st b hb=>by
  obtain⟨⟨old,he⟩,o,e1,c,d⟩:=st
  rcases aX.mp hb with z | z
  ·subst z
   exact⟨_,he,fun v q=>by
    have q':Data.fields _=Data.cell v:=q
    cases q'⟩
  ·have z:b=it:=by simpa using z
   subst z
   exact⟨o,e1,fun v q=>by rw[d] at q;cases q⟩
 keep:=fun i h h' st k=>by
  obtain⟨⟨old,he⟩,hit⟩:=st
  exact⟨⟨old,k e (by simp) _ he⟩,hit.at fun o q=>k it (by simp) o q⟩
 item:=by
  intro X hP hw hK hc i pins s σ H E I hf st hg
  subst hP hw hK
  obtain⟨xs,x,hq,hx⟩:=hg
  obtain⟨⟨old,he⟩,hit⟩:=st
  obtain⟨its,rv,p,hz⟩:=I.list hq
  obtain⟨u,hu,ru⟩:=rv.get hx
  refine wpAny_pyNext_enum_item he hit p.isList (x:=u) (by simpa using hu) hne fun h1 ho hit1 hT hsz hk=>?_
  refine⟨_,rfl,wpAny_letOwnedTupleGo_enum ho fun h2 he2 sb=>?_⟩
  have ele:e<s.heap.objs.size:=aY he
  have k2:∀b ob,b∉[e,it]->s.heap.get? b=some ob->h2.get? b=some ob:=fun b ob hb q=>by
   have n1:b≠e:=fun z=>hb (by simp[z])
   have n2:b≠it:=fun z=>hb (by simp[z])
   exact (sb.2 b n1).trans (hk b ob n1 n2 q)
  have hTn:s.heap.objs.size≠e:=cF ele
  have hT2:h2.get? s.heap.objs.size=some {cls:=.type "tuple",data:=.seq #[.int i s.toks,u]}:=(sb.2 _ hTn).trans hT
  have hn:=I.hok.fresh (aV s.heap.objs.size)
  have I2:Inv X pins σ (upd H s.heap.objs.size (.tup [.int i,x])) {s with heap:=h2,toks:=s.toks+1}:=I.turnT k2 hf (aV _) ⟨by show 2<=sizeLine;decide,[.int i s.toks,u],.cons ⟨_,rfl⟩ (.cons ru .nil),⟨_,hT2,rfl,_,rfl⟩⟩
  refine⟨.ref s.heap.objs.size,_,I2,rfl,⟨s.heap.objs.size,rfl,hn,fun ys hy=>⟨x,by rw[I.list_inj hy hq];exact hx,rfl⟩⟩,⟨⟨_,by simpa using he2⟩,hit1.at fun o q=>(sb.2 it (Ne.symm hne)).trans q⟩,fun b hb=>?_⟩
  have hblt:b<s.heap.objs.size:=by
   rcases aX.mp hb with z | z
   ·rw[z];exact ele
   ·have z:b=it:=by simpa using z
    obtain⟨o,q,_⟩:=hit
    rw[z];exact aY q
  rw[aaE (bD hblt)]
  exact (hf b hb).1
 done:=by
  intro X hP hw hK hc i pins s σ H E I hf st hg
  subst hP hw hK
  obtain⟨xs,hq,hx⟩:=hg
  obtain⟨⟨old,he⟩,hit⟩:=st
  obtain⟨its,rv,p,hz⟩:=I.list hq
  have hl:=rv.length
  refine wpAny_pyNext_enum_end (I.ok.hd hc) he hit p.isList (by simp;omega) fun h' hk=>⟨rfl,?_⟩
  exact I.turnN (ch:=[e,it]) (t':=s.toks) (fun b ob hb q=>hk b ob (fun z=>hb (by simp[z])) q) hf
 self:=fun _ _ _ _ _ st h=>by
  obtain⟨⟨old,he⟩,_⟩:=st
  exact wpAny_pyIter_enum he h
section
variable{X:Cx}{es:List Expr}{kk:Nat}{tpos:Pos}
noncomputable def iEnu(K:FG)(tl:TE):TI:=fun σ H R=>tl σ H fun x H1=>∃a,x=.ref a/\(∃xs,SqL K H1 a xs)/\R (Ite K a) H1
theorem aoB:bootBuiltins "enumerate"=some (.type "enumerate"):=by decide +kernel
theorem iE{l:Expr}{tl:TE}{p pos:Pos}(hm:X.mg "enumerate"=none)(hl:E X l tl)(hg:Gl X "enumerate":=by rfl)(hs:starEach [l] X.env=[(false,eval l X.env)]:=by rfl):
  Il X (.Tuple es kk tpos) (.Call (.Name "enumerate" p) [l] [] pos) (iEnu X.K tl):=by
 refine⟨fun pins s σ H R I h=>?_⟩
 have hA:PA X [l] (ac0 tl adJ):=acB hl.h ac7 hs
 refine Call_ (aeQ I hg hm aoB (PyProof.Rows.callWith_type1 (thn (hA pos pins s σ H (fun vs H1=>match vs with | [x]=>∃a,x=.ref a/\(∃xs,SqL X.K H1 a xs)/\R (Ite X.K a) H1 | _=>False) I ?_) fun us s1 ⟨vs,H1,I1,r1,q1⟩=>?_) hs rfl))
 ·exact h
 match vs,q1,r1 with
 |[x],q1,r1=>?_
 obtain⟨a,rfl,⟨xs,hq⟩,q⟩:=q1
 obtain⟨u,rfl,rx⟩:=acK r1
 cases rx
 obtain⟨its,rv,pl,hz⟩:=I1.list hq
 refine call_enumerate_list pl.isList fun h' he hit hsz hk=>?_
 refine wpAny_pyIter_enum he ?_
 have I2:Inv X pins σ H1 {s1 with heap:=h'}:=I1.kept (t':=s1.toks) hk
 have hne:s1.heap.objs.size+1≠s1.heap.objs.size:=cF (Nat.lt_succ_self _)
 refine⟨s1.heap.objs.size+1,[s1.heap.objs.size+1,s1.heap.objs.size],_,_,H1,rfl,I2,avX a _ _ hne,⟨⟨_,he⟩,hit⟩,fun b hb=>?_,q⟩
 have hb2:s1.heap.objs.size<=b:=by
  rcases aX.mp hb with z | z
  ·rw[z];exact Nat.le_succ _
  ·have z:b=s1.heap.objs.size:=by simpa using z
   rw[z];exact aV _
 exact I1.fpOk hb2 (I1.hok.fresh hb2)
end
theorem arO{K:FG}{a:Addr}{xs:List V}{g:TG}{tb:TS}{D:Ends}{σ:St}{H:Hp}(Pv:Nat->St->Hp->Prop)(h0:Pv 0 σ H)(hl:∀i σ H,i<=xs.length->Pv i σ H->SqL K H a xs)
  (hs:∀i x σ H T,xs[i]? =some x->Pv i σ H->H T=none->g (.ref T) σ (upd H T (.tup [.int i,x])) fun σ2 H2=>tb {D with nx:=Pv (i+1),ct:=Pv (i+1),bk:=D.nx} σ2 H2) (hd:∀σ H,Pv xs.length σ H->D.nx σ H):
  ∃W:Nat->Nat->St->Hp->Prop,(∃m,W 0 m σ H)/\∀i m σ H,W i m σ H->
   ((Ite K a).stop i H/\D.nx σ H)∨((Ite K a).go i H/\∃N:St->Hp->Prop,(∀σ' H',N σ' H'->∃m',m'<m/\W (i+1) m' σ' H')/\∀x H',(Ite K a).yld i H x H'->g x σ H' fun σ2 H2=>tb {D with nx:=N,ct:=N,bk:=D.nx} σ2 H2):=by
 refine⟨fun i m σ H=>m=xs.length-i/\i<=xs.length/\Pv i σ H,⟨xs.length,by simp,bM _,h0⟩,?_⟩
 rintro i m σ H ⟨rfl,hi,p⟩
 have hq:=hl i σ H hi p
 by_cases hlt:i<xs.length
 ·refine .inr ⟨⟨xs,xs[i],hq,by simp[hlt]⟩,Pv (i+1),fun σ' H' p'=>⟨xs.length-(i+1),by omega,rfl,hlt,p'⟩,fun x H' y=>?_⟩
  obtain⟨T,rfl,hT,hy⟩:=y
  obtain⟨x,hx,rfl⟩:=hy xs hq
  exact hs i x σ H T hx p hT
 ·have e:i=xs.length:=by omega
  subst e
  exact .inl ⟨⟨xs,hq,rfl⟩,hd σ H p⟩
noncomputable def num(m:Nat):List Nat:=(Nat.toDigits 10 m).map Char.toNat
section
variable{X:Cx}
theorem aF3:Cl1 X (.type "int") (fun xs H Q=>∃l:List Nat,xs=[.str (Tx l)]/\PySem.NumText.AllDigits l/\l≠[]/\l.length<=640/\Q (.int ((PySem.NumText.digitsVal l:Nat):Int)) H):=by
 refine⟨fun pins s σ H xs us Q I r h=>?_⟩
 obtain⟨l,rfl,h1,h2,h3,q⟩:=h
 obtain⟨u,rfl,t,rfl⟩:=acK r
 refine PySem.W.KIN.call_text (PySem.intText_digits (x:=Tx l) (by simpa using h1) (by simpa using h2) (by rw[abP];omega)) (by rw[abP];exact h3) ?_
 exact⟨.int _,H,I.tok _,⟨_,rfl⟩,by simpa using q⟩
theorem acV:Cl1 X (.type "str") (fun xs H Q=>∃n:Nat,xs=[.int n]/\n<10^500/\Q (.str (Tx (num n))) H):=by
 refine⟨fun pins s σ H xs us Q I r h=>?_⟩
 obtain⟨n,rfl,hn,q⟩:=h
 refine ao6 pins s σ H _ us Q I r ⟨(n:Int),rfl,?_,?_⟩
 ·by_cases h0:n=0
  ·subst h0;decide
  ·have:n<2^1900:=a9 hn (by decide +kernel)
   have:=(Nat.log2_lt h0).mpr this
   show (n:Int).natAbs.log2<1920
   simp only[Int.natAbs_natCast]
   omega
 ·have e:PySem.Str.ofString (toString (n:Int))=Tx (num n):=by
   rw[←aB8 (PySem.Str.ofString (toString (n:Int)))]
   exact congrArg (fun z=>Tx z) (PySem.W.KIN.signs_num n)
  show Q (.str (PySem.Str.ofString (toString (n:Int)))) H
  rw[e]
  exact q
end
end L2
namespace L2
open PySem PySem.Spec PyProof.Rows PySem.Builtin PySem.Builtin.Str
theorem ifT{b:Bool}{A B:Prop}(e:b=true)(h:A):if b=true then A else B:=by rw[if_pos e];exact h
theorem ifF{b:Bool}{A B:Prop}(e:b=false)(h:B):if b=true then A else B:=by rw[if_neg (by rw[e];exact bC)];exact h
theorem if2{b:Bool}{A B:Prop}(h1:b=true->A)(h2:b=false->B):if b=true then A else B:=by
 cases b
 ·exact ifF rfl (h2 rfl)
 ·exact ifT rfl (h1 rfl)
theorem aw8(a b:List Nat):decide (V.str (Tx a)=V.str (Tx b))=decide (a=b):=decide_eq_decide.mpr ⟨fun h=>Tx_inj.mp (V.str.inj h),fun h=>by rw[h]⟩
section
variable{X:Cx}{pos:Pos}
theorem eSx{z:Str}{j}(l:List Nat)(h:z=Tx l:=by decide +kernel):E X (.Constant (.str z) j pos) (tC (.str (Tx l))):=by
 subst h
 exact⟨ayH⟩
end
noncomputable def af7(c:Nat):Bool:=decide (48<=c)&&decide (c<=57)
noncomputable def aEW:List Nat:=[48,49,50,51,52,53,54,55,56,57]
theorem ayD(c:Nat):decide (c∈aEW)=af7 c:=by
 unfold aEW af7
 rw[cI,d7,bX,d7,d7]
 simp
 omega
noncomputable def apF(l:List Nat):Bool:= !decide (l=[])&&l.all af7
noncomputable def isW(l:List Nat):Bool:=apF l&&(decide (l=[48])|| !decide (l.headD 0=48))
noncomputable def dv(l:List Nat):Int:=((PySem.NumText.digitsVal l:Nat):Int)
noncomputable def aa6(lo hi:Int)(l:List Nat):Option Int:=if isW l=true then (if lo<=dv l/\dv l<=hi then some (dv l) else none) else none
noncomputable def oV:Option Int->V
 |none=>.non
 |some n=>.int n
noncomputable def ajE(es:List (Option Int)):Option (Int×Int):=match es with
 |[some a]=>some (a,a)
 |[some a,some b]=>if b<a then none else some (a,b)
 |_=>none
noncomputable def aa7(lo hi:Int)(l:List Nat):Option (Int×Int):=if l=[42] then some (lo,hi) else ajE ((spl 45 l).map (aa6 lo hi))
@[irreducible] noncomputable def acU(a b s:Int):List Int:=(List.range (Builtin.Range.rangeSize a (b+1) s).toNat).map fun i:Nat=>a+(i:Int)*s
theorem akU(a b s:Int):acU a b s=(List.range (Builtin.Range.rangeSize a (b+1) s).toNat).map fun i:Nat=>a+(i:Int)*s:=by rw[acU]
noncomputable def afQ(a b s:Int):Int:=abY (acU a b s)
noncomputable def abU(lo hi:Int)(r s:List Nat):Option Int:=
 match aa7 lo hi r,aa6 1 99 s with
 |some (a,b),some st=>some (afQ a (if isW r=true then hi else b) st)
 |_,_=>none
noncomputable def aaI(lo hi:Int)(l:List Nat):Option Int:=
 match spl 47 l with
 |[r,s]=>abU lo hi r s
 |_=>match aa7 lo hi l with
  |some (a,b)=>some (afQ a b 1)
  |none=>none
theorem as2{l:List Nat}(h:isW l=true):PySem.NumText.AllDigits l/\l≠[]:=by
 unfold isW apF at h
 rw[bX,bX] at h
 refine⟨fun c hc=>?_,fun e=>?_⟩
 ·have:=b9.mp h.1.2 c hc
  unfold af7 at this
  rw[bX] at this
  exact⟨d5 this.1,d5 this.2⟩
 ·rw[d6 e] at h
  exact absurd h.1.1 (by decide)
theorem akO{a b s:Int}(hs:0<s):Builtin.Range.rangeSize a (b+1) s=if a<=b then (b-a) / s+1 else 0:=by
 unfold Builtin.Range.rangeSize
 rw[if_pos hs]
 by_cases c:a<=b
 ·rw[if_pos c,if_pos (by omega),show b+1-a-1=b-a by omega]
 ·rw[if_neg c,if_neg (by omega)]
theorem aoW{a b s z:Int}(hs:0<s):z∈acU a b s↔a<=z/\z<=b/\(z-a)%s=0:=by
 rw[akU,bR,akO hs]
 refine⟨fun ⟨i,hi,e⟩=>?_,fun ⟨h1,h2,h3⟩=>?_⟩
 ·subst e
  by_cases c:a<=b
  ·rw[if_pos c,b6] at hi
   have hq:(i:Int)<=(b-a) / s:=by
    have:0<=(b-a) / s:=Int.ediv_nonneg (by omega) (by omega)
    omega
   have hm:(i:Int)*s<=(b-a) / s*s:=Int.mul_le_mul_of_nonneg_right hq (by omega)
   have hd:(b-a) / s*s<=b-a:=Int.ediv_mul_le _ (by omega)
   have h0:0<=(i:Int)*s:=Int.mul_nonneg (by omega) (by omega)
   refine⟨by omega,by omega,?_⟩
   rw[show a+(i:Int)*s-a=(i:Int)*s by omega]
   exact Int.mul_emod_left _ _
  ·rw[if_neg c,b6] at hi
   exact absurd hi (by simp)
 ·rw[if_pos (by omega)]
  have hd:s*((z-a) / s)+(z-a)%s=z-a:=Int.mul_ediv_add_emod _ _
  rw[h3,Int.add_zero] at hd
  have h0:0<=(z-a) / s:=Int.ediv_nonneg (by omega) (by omega)
  have hle:(z-a) / s<=(b-a) / s:=Int.ediv_le_ediv hs (by omega)
  refine⟨((z-a) / s).toNat,b6.mpr (by omega),?_⟩
  rw[b5 h0,Int.mul_comm]
  omega
theorem auR{a b s:Int}(h0:0<=a)(h1:b<=1000)(hs:0<s):(Builtin.Range.rangeSize a (b+1) s).toNat<=1001/\Builtin.Range.rangeSize a (b+1) s=((Builtin.Range.rangeSize a (b+1) s).toNat:Int):=by
 have hz:=avO (a:=a) (b:=b+1) hs
 refine⟨?_,by omega⟩
 rw[akO hs]
 split
 ·have:(b-a) / s<=b-a:=Int.ediv_le_self _ (by omega)
  omega
 ·decide
theorem awU{a b s:Int}(h0:0<=a)(ha:a<=1000)(h1: -1<=b)(hb:b<=1000)(hs:0<s)(hs2:s<=1000):Builtin.Range.small a (b+1) s=true:=by
 have hl:=auR h0 hb hs
 have hz:=avO (a:=a) (b:=b+1) hs
 unfold Builtin.Range.small
 simp only[Builtin.Range.rangeFitsLong,bX,Bool.or_eq_true,d7,beq_iff_eq]
 refine⟨⟨⟨⟨?_,?_⟩,?_⟩,?_⟩,.inr ?_⟩
 ·exact⟨by omega,by omega⟩
 ·exact⟨by omega,by omega⟩
 ·exact⟨by omega,by omega⟩
 ·exact⟨by omega,by omega⟩
 ·rw[if_pos hs]
  simp only[bX,d7]
  exact⟨by omega,by omega⟩
end L2
namespace L2
open PySem PySem.Spec PyProof.Rows PySem.Builtin PySem.Builtin.Str
theorem arK{lo hi a:Int}{l:List Nat}(h:aa6 lo hi l=some a):lo<=a/\a<=hi:=by
 unfold aa6 at h
 split at h
 ·split at h
  ·rename_i c
   have:=bA h
   omega
  ·cases h
 ·cases h
theorem ak5{lo hi a b:Int}{l:List Nat}(hle:lo<=hi)(h:aa7 lo hi l=some (a,b)):(lo<=a/\a<=hi)/\lo<=b/\b<=hi:=by
 unfold aa7 at h
 split at h
 ·cases h;omega
 ·have key:∀es:List (Option Int),(∀e∈es,∀x,e=some x->lo<=x/\x<=hi)->ajE es=some (a,b)->(lo<=a/\a<=hi)/\lo<=b/\b<=hi:=by
   intro es hb h
   match es,hb,h with
   |[some x],hb,h=>
    have h:some (x,x)=some (a,b):=h
    cases h
    have:=hb _ (by simp) a rfl
    exact⟨this,this⟩
   |[some x,some y],hb,h=>
    have h:(if y<x then none else some (x,y))=some (a,b):=h
    split at h
    ·cases h
    ·cases h
     exact⟨hb (some a) (by simp) a rfl,hb (some b) (by simp) b rfl⟩
   |[],_,h=>cases h
   |[none],_,h=>cases h
   |[none,y],_,h=>cases h
   |[some x,none],_,h=>cases h
   |x::y::u::r,_,h=>cases x<;>cases y<;>cases h
  refine key _ (fun e he x hx=>?_) h
  obtain⟨w,_,rfl⟩:=bR.mp he
  exact arK hx
noncomputable def orM(ms:List Int):Int:=ms.foldl (fun a m=>Builtin.bitOr a m) 0
theorem alY(ms:List Int)(m:Int):orM (ms++[m])=Builtin.bitOr (orM ms) m:=by unfold orM;rw[dF];rfl
theorem amB:∀(ms:List Int) (a:Int),0<=a->(∀m∈ms,0<=m)->0<=ms.foldl (fun a m=>Builtin.bitOr a m) a/\∀i,tb (ms.foldl (fun a m=>Builtin.bitOr a m) a) i=(tb a i||ms.any fun m=>tb m i)
 |[],a,h,_=>⟨h,fun i=>by simp⟩
 |m::ms,a,h,hm=>by
  have hp:=hm m (by simp)
  obtain⟨h1,h2⟩:=amB ms (Builtin.bitOr a m) (agG h hp) fun z hz=>hm z (by simp[hz])
  refine⟨h1,fun i=>?_⟩
  show tb (ms.foldl _ (Builtin.bitOr a m)) i=_
  rw[h2 i,alQ h hp,cG,Bool.or_assoc]
theorem ae4{ms:List Int}(h:∀m∈ms,0<=m):0<=orM ms:=(amB ms 0 (a8 0) h).1
theorem agO{ms:List Int}(h:∀m∈ms,0<=m)(i:Nat):tb (orM ms) i=ms.any fun m=>tb m i:=by
 have:=(amB ms 0 (a8 0) h).2 i
 rw[acJ,Bool.false_or] at this
 exact this
noncomputable def adM(lo hi:Int)(l:List Nat):List Int:=(spl 44 l).map fun w=>(aaI lo hi w).getD 0
noncomputable def avA(lo hi:Int)(l:List Nat):Prop:=(spl 44 l).length<=40/\∀w∈spl 44 l,(aaI lo hi w).isSome=true
theorem acC:∀n:Nat,n<100->isW (num n)=true/\dv (num n)=(n:Int)/\((num n).all fun c=>af7 c)=true/\(num n).length<=2:=by decide +kernel
theorem abD{n c:Nat}(h:n<100)(hc:af7 c=false):c∉num n:=fun hm=>by
 have:=b9.mp (acC n h).2.2.1 c hm
 rw[hc] at this
 cases this
theorem aEZ{n:Nat}(h:n<100):num n≠[42]:=fun e=>by
 have:=abD h (c:=42) (by decide)
 rw[e] at this
 exact this (by simp)
theorem afK{n:Nat}{lo hi:Int}(h:n<100)(h1:lo<=n)(h2:(n:Int)<=hi):aa6 lo hi (num n)=some (n:Int):=by
 obtain⟨a,b,_⟩:=acC n h
 unfold aa6
 rw[if_pos a,b,if_pos ⟨h1,h2⟩]
theorem aEE{l:List Nat}{c:Nat}(hm:c∈l)(hc:af7 c=false):isW l=false:=by
 cases e:isW l
 ·rfl
 ·unfold isW apF at e
  rw[bX,bX] at e
  have:=b9.mp e.1.2 c hm
  rw[hc] at this
  cases this
theorem avM{n:Nat}{lo hi:Int}(h:n<100)(h1:lo<=n)(h2:(n:Int)<=hi):aa7 lo hi (num n)=some ((n:Int),(n:Int)):=by
 unfold aa7
 rw[if_neg (aEZ h),adL 45 _ (abD h (by decide))]
 show ajE [aa6 lo hi (num n)]=_
 rw[afK h h1 h2]
 rfl
theorem avI{n m:Nat}{lo hi:Int}(h:n<100)(h':m<100)(h1:lo<=n)(h2:n<=m)(h3:(m:Int)<=hi):aa7 lo hi (num n++45::num m)=some ((n:Int),(m:Int)):=by
 unfold aa7
 rw[if_neg (fun e=>by (have:45∈num n++45::num m:=(by simp));rw[e] at this;simp at this),akX 45 _ _ (abD h (by decide)),adL 45 _ (abD h' (by decide))]
 show ajE [aa6 lo hi (num n),aa6 lo hi (num m)]=_
 rw[afK h h1 (by omega),afK h' (by omega) h3]
 show (if (m:Int)<n then none else some ((n:Int),(m:Int)))=_
 rw[if_neg (by omega)]
theorem asE{lo hi:Int}:aa7 lo hi [42]=some (lo,hi):=by unfold aa7;rw[if_pos rfl]
theorem alW{lo hi a b:Int}{r:List Nat}(hf:47∉r)(h:aa7 lo hi r=some (a,b)):aaI lo hi r=some (afQ a b 1):=by
 unfold aaI
 rw[adL 47 r hf,h]
theorem alZ{lo hi a b:Int}{r:List Nat}{s:Nat}(hf:47∉r)(h:aa7 lo hi r=some (a,b))(hs:s<100)(hs1:1<=s):aaI lo hi (r++47::num s)=some (afQ a (if isW r=true then hi else b) s):=by
 unfold aaI
 rw[akX 47 r _ hf,adL 47 _ (abD hs (by decide))]
 show abU lo hi r (num s)=_
 unfold abU
 rw[h,afK hs (by omega) (by omega)]
end L2
namespace L2
open PySem PySem.Spec PyProof.Rows PySem.Builtin PySem.Builtin.Str
theorem asI:∀{ws:List (List Nat)} {vs:List Value},Vals (ws.map fun q=>V.str (Tx q)) vs->StrsAre vs (ws.map Tx)
 |[],[],_=>.nil
 |[],_::_,h=>nomatch h
 |_::_,[],h=>nomatch h
 |w::r,v::vs,.cons h t=>by
  obtain⟨k,rfl⟩:=h
  exact .cons (Tx w) k (asI t)
theorem aBC(c:Nat)(ws:List (List Nat)):Txt.join (Tx [c]) (ws.map Tx)=Tx (aa1 c ws):=by
 have e1:Txt.join (Tx [c]) (ws.map Tx)=Str.join (Tx [c]) (ws.map Tx):=StrLaws.glued_eq_join _ _
 have e2:=ao2 c (ws.map Tx)
 rw[cD] at e2
 have e3:ws.map ((fun x:Str=>x.cps.toList) ∘ Tx)=ws:=by
  have:∀l:List (List Nat),l.map ((fun x:Str=>x.cps.toList) ∘ Tx)=l:=fun l=>by
   induction l with
   |nil=>rfl
   |cons a r ih=>rw[bI,ih];simp
  exact this ws
 rw[e3] at e2
 rw[e1,←aB8 (Str.join (Tx [c]) (ws.map Tx)),e2]
theorem aoI(c:Nat):∀ws:List (List Nat),(ws.map (·.length)).sum+ws.length=(aa1 c ws).length+(if ws=[] then 0 else 1)
 |[]=>rfl
 |[p]=>by simp[aa1]
 |p::q::r=>by
  have ih:=aoI c (q::r)
  rw[if_neg (by simp)] at ih ⊢
  simp only[bI,List.sum_cons,bJ,aa1,aW] at ih ⊢
  omega
section
variable{X:Cx}
noncomputable def aC3(K:FG):V->List V->Hp->VK->Prop:=fun x vs H Q=>∃(c:Nat) (p:Addr) (ws:List (List Nat)),x=.str (Tx [c])/\vs=[.ref p]/\SqL K H p (ws.map fun q=>V.str (Tx q))/\(aa1 c ws).length<=1000000/\Q (.str (Tx (aa1 c ws))) H
theorem aBU:MtR X "str.join" (aC3 X.K):=by
 intro pins s σ H x xs v us Q I rx rv h
 obtain⟨c,p,ws,rfl,rfl,hq,hz,q⟩:=h
 obtain⟨u,rfl,r1⟩:=acK rv
 cases r1
 obtain⟨t,rfl⟩:=rx
 obtain⟨its,rv2,pl,hz2⟩:=I.list hq
 have hj:=aoI c ws
 have hw:((ws.map Tx).map (·.length)).sum+(ws.map Tx).length<=1048576:=by
  rw[cD,aU]
  have e:ws.map ((fun x:Str=>x.length) ∘ Tx)=ws.map (·.length):=List.map_congr_left fun a _=>abP a
  rw[e]
  split at hj<;>omega
 refine join_listW pl.isList (ys:=ws.map Tx) (by simpa using asI rv2) (by rw[abP];show 1<=16;decide) hw fun t' k=>?_
 refine⟨.str (Tx (aa1 c ws)),H,I.kept (t':=k) fun _ _ e=>e,⟨t',by rw[aBC]⟩,q⟩
theorem aIG{o e:Expr}{to te:TE}{apos cpos:Pos}(ho:E X o to)(he:E X e te)(hbase:attributeBase o "join" X.env (eval o X.env)=eval o X.env:=by rfl)
  (hfew:((backTo cpos (starEach [e] X.env)).all (fun x=> !x.1)&&(backToKw cpos (keywordEach [] X.env)).all (fun x=>x.1.isSome)&&decide (([e]:List Expr).length+([]:List Keyword).length+(if ([]:List Keyword).isEmpty then 0 else 1)<30))=true:=by rfl)
  (hline:(apos.endLine==cpos.line)=true:=by rfl) (hs:starEach [e] X.env=(false,eval e X.env)::starEach [] X.env:=by rfl) (hplain:(backTo cpos (starEach [] X.env)).any (·.1)=false:=by rfl):
  E X (.Call (.Attribute o "join" apos) [e] [] cpos) (tBM X.K "str" (aC3 X.K) to (ac0 te adJ)):=
 ⟨aqX PySem.F.plainAttrs_str PySem.F.slot_str_join PySem.F.type_str_join aBU ho.h (acB he.h ac7 hs) hbase hfew hline hs hplain⟩
theorem aO6:Op2 X (binaryOp .Add) (fun x y H Q=>∃(a b:Addr) (xs ys:List V),x=.ref a/\y=.ref b/\SqL X.K H a xs/\SqL X.K H b ys/\xs.length+ys.length<=sizeLine/\∀p,H p=none->Q (.ref p) (upd H p (.lst (xs++ys)))):=by
 refine⟨fun pins s σ H x y v u Q I rx ry h=>?_⟩
 obtain⟨a,b,xs,ys,rfl,rfl,ha,hb,hz,q⟩:=h
 cases rx
 cases ry
 obtain⟨i1,r1,p1,z1⟩:=I.list ha
 obtain⟨i2,r2,p2,z2⟩:=I.list hb
 obtain⟨⟨cls,dd,data,sl⟩,ho,hc,n,hd⟩:=p1.isList
 obtain⟨⟨cls2,dd2,data2,sl2⟩,ho2,hc2,n2,hd2⟩:=p2.isList
 simp only at hc hd hc2 hd2
 subst hc hd hc2 hd2
 have l1:=r1.length
 have l2:=r2.length
 refine concat_meets ⟨_,ho,rfl⟩ ⟨_,ho2,rfl⟩ noFill_list_add seq_list_add PySem.F.slot_list_add PySem.F.entry_list_add (PySem.F.args_list_add_2 _ _) (list_addW a b _ _ n n2 dd dd2 sl sl2 (by simp only[bG];omega)) ⟨ho,ho2,?_⟩
 refine⟨.ref s.heap.objs.size,upd H s.heap.objs.size (.lst (xs++ys)),I.laid (t':=s.toks) (fun b u e=>bB _ e) (aV _) ?_,rfl,q _ (I.hok.fresh (aV _))⟩
 exact⟨by rw[aW];exact hz,i1++i2,0,r1.append r2,by simpa using bL _ rfl⟩
end
noncomputable def atA(J:It)(k:Nat)(js:List Nat)(g:TG)(σ:St)(tt:TT)(te:TE)(Q:VK)(H1:Hp):Prop:=∀D,H1 D=none->∃W:Nat->Nat->Hp->Prop,(∃m,W 0 m (upd H1 D (.lst [])))/\∀i m H2,W i m H2->
 (J.stop i H2/\Q (.ref D) H2)∨(J.go i H2/\∀v H3,J.yld i H2 v H3->∀τ:St,τ.length=k->g v (τ++aa3 js σ) H3 fun σ2 H3'=>(∃τ':St,τ'.length=k/\σ2=τ'++aa3 js σ)/\tt σ2 H3' fun b H4=>if b=true then
  te σ2 H4 fun y H5=>∃ys,H5 D=some (.lst ys)/\ys.length<sizeLine/\∃m',m'<m/\W (i+1) m' (upd H5 D (.lst (ys++[y])))
  else ∃m',m'<m/\W (i+1) m' H4)
noncomputable def atT(wi:TI)(k:Nat)(js:List Nat)(g:TG)(tt:TT)(te:TE):TE:=fun σ H Q=>wi σ H fun J H1=>atA J k js g σ tt te Q H1
section
variable{X:Cx}{elt iter tg:Expr}{xs:List Str}{y:Str}{py pos spos:Pos}{ifs:List Expr}{scope:Scope}{cl:List (Str×Addr)}{N':List Str}{js:List Nat}{tt:TT}{te:TE}{g:TG}{wi:TI}
theorem asJ{pins:List (Addr×Obj)}{σ:St}{H:Hp}{s s4:Shared}{fp:List Addr}{C:Addr}{m4:Str->Option Value}(hcl:Clos X scope cl)(hN:js.map (fun j=>X.N[j]?)=N'.map some)
  (hk:N'.all (fun y=>(X.env.kindOf y==some .cell)||(X.env.kindOf y==some .free))=true) (hf:N'.all (fun y=>scope.names.lookup y==some .free)=true)
  (I:Inv X pins σ H s) (hfp:∀b∈fp,adR X pins H b/\b<s.heap.objs.size) (hC:C=s.heap.objs.size) (ho:s4.os=s.os) (hg:s4.gens=s.gens) (hkeep:∀b o,s.heap.get? b=some o->s4.heap.get? b=some o) (hn:s4.heap.Ns C m4):
  Inv (aaQ X (xs++N') scope cl C fp pins s H) [] (List.replicate xs.length none++aa3 js σ) H s4:=by
 have hne:∀b o,s.heap.get? b=some o->b≠C:=fun b o e=>by rw[hC];exact bD (aY e)
 refine⟨⟨I.ok.mod,hcl.kind,I.ok.glob,I.ok.blt,Nat.le_of_eq hC.symm,fun y z c h1 h2=>I.ok.inj y z c (hcl.sub y c h1) (hcl.sub z c h2),fun y hy=>hcl.has y (anW (fun z=>hcl.nocell _ (PySem.mem_of_lookup z) rfl) (by rw[←adT];exact hy)),fun y c h _=>(nomatch h),I.ok.hd,I.ok.frames,.inl rfl,fun b hb=>⟨?_,fun y c e=>(hfp b hb).1.2.2.2.2.1 y c (hcl.sub y c e)⟩,
  I.bs,bT I.ok.bsz I.sz,fun b o e hb=>?_,fun b hb hz=>?_,I.stack,I.stkFree⟩,ho,by rw[hg];exact I.bare,Un.kept hkeep,⟨m4,hn,fun i y v h1 h2 h3=>?_⟩,fun y c e=>?_,?_,fun y c e=>I.freeC y c (hcl.sub y c e),fun p hp=>?_,I.hok.kept hkeep,?_⟩
 ·rw[hC];exact bD (hfp b hb).2
 ·rcases (hfp b hb).1.2.2.2.1 with z | z
  ·exact I.ok.noex b o e z
  ·exact absurd (a9 (aY e) (bT I.ok.bsz z)) (cA _)
 ·rcases aX.mp (I.stkSub b hz) with z | z
  ·exact (hfp b hb).1.2.1 z
  ·exact (hfp b hb).1.2.2.1 z
 ·by_cases hi:i<xs.length
  ·rw[List.getElem?_append_left (by rw[cX];exact hi),List.getElem?_replicate,if_pos hi] at h2
   exact nomatch h2
  ·obtain⟨j0,rfl⟩:∃j0,i=xs.length+j0:=⟨i-xs.length,by omega⟩
   have h1:N'[j0]? =some y:=by
    have h1:(xs++N')[xs.length+j0]? =some y:=h1
    rw[dN (c8 _ _),Nat.add_sub_cancel_left] at h1
    exact h1
   have h2:(aa3 js σ)[j0]? =some (some v):=by rw[dN (by rw[cX];exact c8 _ _),cX,Nat.add_sub_cancel_left] at h2;exact h2
   generalize j0=i at h1 h2
   have hy:y∈N':=bW h1
   have q:(js.map (fun j=>X.N[j]?))[i]? =some (some y):=by rw[hN,bE,h1];rfl
   rw[bE] at q
   cases ej:js[i]? with
   |none=>rw[ej] at q;cases q
   |some j=>
    rw[ej] at q
    have q:X.N[j]? =some y:=bA q
    unfold aa3 at h2
    rw[bE,ej] at h2
    have h2:(σ[j]?).getD none=some v:=bA h2
    have h2:σ[j]? =some (some v):=by
     cases e:σ[j]? with
     |none=>rw[e] at h2;cases h2
     |some o=>rw[e] at h2;exact congrArg some h2
    have kk:=b9.mp hk y hy
    have kk:X.env.kindOf y=some .cell∨X.env.kindOf y=some .free:=by simpa using kk
    have ff:=b9.mp hf y hy
    have ff:scope.names.lookup y=some .free:=by simpa using ff
    obtain⟨m,_,hl⟩:=I.loc
    obtain⟨u,r,l⟩:=hl j y v q h2 (by rcases kk with z | z;exact .inr (.inl z);exact .inr (.inr z))
    refine⟨u,r,.inr ⟨ahB ff,?_⟩⟩
    obtain⟨c,hc⟩:=hcl.has y ff
    rcases l with ⟨z,_⟩ | ⟨_,c',e',cell⟩
    ·rcases kk with k | k<;>(rw[k] at z;cases z)
    ·rw[hcl.sub y c hc] at e'
     cases e'
     exact⟨c,hc,cell.keeps hkeep⟩
 ·obtain⟨v,q⟩:=I.cell y c (hcl.sub y c e)
  exact⟨v,q.keeps hkeep⟩
 ·show H C=none
  rw[hC]
  exact I.hok.fresh (aV _)
 ·have hp:p∈X.pn++pins:=by
   have hp:p∈(X.pn++pins)++[]:=hp
   rwa [cS] at hp
  obtain⟨e,n,ne,nf,d⟩:=I.pin p hp
  refine⟨hkeep _ _ e,n,hne _ _ e,fun z=>?_,d⟩
  rcases aX.mp (I.stkSub p.1 z) with z | z
  ·exact ne z
  ·exact nf z
 ·show (List.replicate xs.length none++aa3 js σ).length=(xs++N').length
  rw[aW,aW,cX]
  have q:=congrArg List.length hN
  rw[aU,aU] at q
  unfold aa3
  rw[aU,q]
theorem awC{pins:List (Addr×Obj)}{σ σ':St}{H H':Hp}{s s':Shared}{fp:List Addr}{C:Addr}(I:Inv X pins σ H s)(hfp:∀b∈fp,adR X pins H b)(J:Inv (aaQ X (xs++N') scope cl C fp pins s H) [] σ' H' s'):Inv X pins σ H' s':=
 I.call' (ch:=fp) J.os J.base J.hok J.bare fun b hb=>⟨(hfp b hb).2.2.2.1,(hfp b hb).2.1,(hfp b hb).2.2.2.2.1,(hfp b hb).2.2.2.2.2⟩
theorem ai0{pins:List (Addr×Obj)}{σ:St}{H:Hp}{s:Shared}{Q:VK}{RR:Value->Addr->Result->Shared->Prop}{J:It}{fp:List Addr}{it:Addr}{tn:Nat->Heap->Prop}
  (hcl:Clos X scope cl) (hnd:(xs++N').Nodup) (hN:js.map (fun j=>X.N[j]?)=N'.map some)
  (hk:N'.all (fun y=>(X.env.kindOf y==some .cell)||(X.env.kindOf y==some .free))=true) (hf:N'.all (fun y=>scope.names.lookup y==some .free)=true) (hc:X.calm=true)
  (hg:∀(C:Addr) (ex:List Addr) (pins:List (Addr×Obj)) (s:Shared) (H:Hp),PG (aaQ X (xs++N') scope cl C ex pins s H) tg g)
  (ht:∀(C:Addr) (ex:List Addr) (pins:List (Addr×Obj)) (s:Shared) (H:Hp),PF (aaQ X (xs++N') scope cl C ex pins s H) ifs tt)
  (he:∀(C:Addr) (ex:List Addr) (pins:List (Addr×Obj)) (s:Shared) (H:Hp),PE (aaQ X (xs++N') scope cl C ex pins s H) elt te)
  (I:Inv X pins σ H s) (T:Turn X.prog X.w X.K (tg) J fp it tn) (st:tn 0 s.heap) (hfp:∀b∈fp,adR X pins H b)
  (q:∀D,H D=none->∃W:Nat->Nat->Hp->Prop,(∃m,W 0 m (upd H D (.lst [])))/\∀i m H2,W i m H2->
   (J.stop i H2/\Q (.ref D) H2)∨(J.go i H2/\∀v H3,J.yld i H2 v H3->∀τ:St,τ.length=xs.length->g v (τ++aa3 js σ) H3 fun σ2 H3'=>(∃τ':St,τ'.length=xs.length/\σ2=τ'++aa3 js σ)/\tt σ2 H3' fun b H4=>if b=true then
    te σ2 H4 fun y H5=>∃ys,H5 D=some (.lst ys)/\ys.length<sizeLine/\∃m',m'<m/\W (i+1) m' (upd H5 D (.lst (ys++[y])))
    else ∃m',m'<m/\W (i+1) m' H4))
  (hRR:∀(D C:Addr) (s':Shared) (H':Hp) (m:Str->Option Value),Inv X pins σ H' s'->H' C=none->C≠X.env.locals->X.s₀.heap.objs.size<=C->(∀y c,X.env.cells.lookup y=some c->c≠C)->(∀p∈X.pn++pins,p.1≠C)->s'.heap.Ns C m->Q (.ref D) H'->RR (.ref D) C (.ok .next) s'):
  wpAny (model X.prog X.w) X.A (newList []) (fun acc s₃=>wpAny (model X.prog X.w) X.A (newFunctionEnv scope X.env.globals cl [] X.env.qual none .none (some X.env)) (fun cenv s₄=>
   codeAny (model X.prog X.w) X.A (.compStart (.ListComp elt [⟨tg,iter,ifs,0⟩] scope pos) 0 (.ref it) acc {cenv with scope:=relabel scope X.env}) (RR acc cenv.locals) s₄) X.xe s₃) X.xe s:=by
 refine wpAny_newObj_type ?_
 have hD:H s.heap.objs.size=none:=I.hok.fresh (aV _)
 have I3:Inv X pins σ (upd H s.heap.objs.size (.lst [])) {s with heap:=s.heap.push {cls:=.type "list",dict:=none,data:=.seq ([]:List Value).toArray} }:=I.lnew (its:=[]) (t':=s.toks) .nil (bM _)
 have hfp3:∀b∈fp,adR X pins (upd H s.heap.objs.size (.lst [])) b/\b<(s.heap.push {cls:=.type "list",dict:=none,data:=.seq ([]:List Value).toArray}).objs.size:=fun b hb=>by
  obtain⟨o,ho,_⟩:=T.obj 0 _ st b hb
  have hlt:=aY ho
  obtain⟨f0,f1⟩:=hfp b hb
  exact⟨⟨by rw[aaE (bD hlt)];exact f0,f1⟩,by rw[cR];exact Nat.lt_succ_of_lt hlt⟩
 have st3:tn 0 (s.heap.push {cls:=.type "list",dict:=none,data:=.seq ([]:List Value).toArray}):=T.keep _ _ _ st fun b _ o e=>bB _ e
 obtain⟨W,⟨m0,w0⟩,turn⟩:=q s.heap.objs.size hD
 generalize hs3:({s with heap:=s.heap.push {cls:=.type "list",dict:=none,data:=.seq ([]:List Value).toArray} }:Shared)=s3 at I3 ⊢
 have hh3:s.heap.push {cls:=.type "list",dict:=none,data:=.seq ([]:List Value).toArray}=s3.heap:=by rw[←hs3]
 rw[hh3] at hfp3 st3
 generalize s.heap.objs.size=D at I3 hfp3 w0 turn hD ⊢
 generalize upd H D (.lst [])=H3 at I3 hfp3 w0
 refine wpAny_newFunctionEnv hcl.nocell (by intro y hy;simp at hy) (fun h₁ hns₁ hsb₁=>?_) hcl.kind
 have hkeep:∀b o,s3.heap.get? b=some o->h₁.get? b=some o:=fun b o e=>hsb₁.extBut b o (bD (aY e)) (bB _ e)
 have J4:Inv (aaQ X (xs++N') scope cl s3.heap.objs.size fp pins s3 H3) [] (List.replicate xs.length none++aa3 js σ) H3 {s3 with heap:=h₁,toks:=s3.toks+([]:List (Str×Value)).length}:=
  asJ hcl hN hk hf I3 hfp3 rfl rfl rfl hkeep hns₁
 have st4:tn 0 h₁:=T.keep _ _ _ st3 fun b _ o e=>hkeep b o e
 have cell':∀{s':Shared} {σ':St} {H':Hp},Inv (aaQ X (xs++N') scope cl s3.heap.objs.size fp pins s3 H3) [] σ' H' s'->Q (.ref D) H'->RR (.ref D) s3.heap.objs.size (.ok .next) s':=fun {s' σ' H'} J hq=>by
  obtain⟨m,hn,_⟩:=J.loc
  refine hRR D _ s' H' m (awC I3 (fun b hb=>(hfp3 b hb).1) J) J.free (cF I3.lt) I3.sz (fun y c e z=>?_) (fun p hp z=>?_) hn hq
  ·obtain⟨v,k⟩:=I3.cell y c e
   exact absurd k.lt (by rw[z];exact cA _)
  ·exact absurd (aY (I3.pin p hp).1) (by rw[z];exact cA _)
 have fpX:∀{H':Hp},(∀b∈fp,H' b=none)->∀b∈fp,adR (aaQ X (xs++N') scope cl s3.heap.objs.size fp pins s3 H3) [] H' b:=fun {H'} hn b hb=>by
  obtain⟨⟨f0,f1,f2,f3,f4,f5⟩,flt⟩:=hfp3 b hb
  refine⟨hn b hb,bD flt,fun z=>?_,.inl hb,fun y c e=>f4 y c (hcl.sub y c e),fun p hp=>?_⟩
  ·rcases aX.mp (I3.stkSub b z) with z | z
   ·exact f1 z
   ·exact f2 z
  ·have hp:p∈(X.pn++pins)++[]:=hp
   rw[cS] at hp
   exact f5 p hp
 have loop:∀s₄:Shared,s₄={s3 with heap:=h₁,toks:=s3.toks+([]:List (Str×Value)).length}->
   codeAny (model X.prog X.w) X.A (.compLoop (.ListComp elt [⟨tg,iter,ifs,0⟩] scope pos) 0 (.ref it) (.ref D) (compEnvC scope cl s3.heap.objs.size X.env)) (RR (.ref D) s3.heap.objs.size) s₄:=by
  rintro s₄ rfl
  refine amG rfl (fun n s'=>∃i τ H',τ.length=xs.length/\Inv (aaQ X (xs++N') scope cl s3.heap.objs.size fp pins s3 H3) [] (τ++aa3 js σ) H' s'/\tn i s'.heap/\(∀b∈fp,H' b=none)/\W i n H') ?_ m0 ⟨0,List.replicate xs.length none,H3,cX,J4,st4,fun b hb=>(hfp3 b hb).1.1,w0⟩
  rintro n s5 ⟨i,τ,H5,hτ,J5,st5,fr5,w5⟩
  rcases turn i n H5 w5 with ⟨stop,qn⟩ | ⟨go,step⟩
  ·refine dX (T.done (aaQ X (xs++N') scope cl s3.heap.objs.size fp pins s3 H3) rfl rfl rfl hc i [] s5 _ H5 (fun _ _=>False) J5 (fpX fr5) st5 stop) (fun r s6 ⟨hr,J6⟩=>?_) fun _ _ z=>z.elim
   subst hr
   exact cell' J6 qn
  ·refine dX (T.item (aaQ X (xs++N') scope cl s3.heap.objs.size fp pins s3 H3) rfl rfl rfl hc i [] s5 _ H5 (fun _ _=>False) J5 (fpX fr5) st5 go) (fun r s6 ⟨u,hr,h6⟩=>?_) fun _ _ z=>z.elim
   subst hr
   refine dX h6 (fun _ s6' h6'=>?_) fun _ _ z=>z.elim
   obtain⟨v,H6,J6,r6,y6,st6,fr6⟩:=h6'
   clear h6
   have J6':=J6.pinned (fpX fr6) (T.obj _ _ st6)
   show wpAny _ _ (assign tg _ u) _ _ _
   refine dX (hg _ _ _ _ _ _ s6' _ H6 v u _ J6' r6 (step v H6 y6 τ hτ)) (fun _ s7 h7=>?_) fun _ _ z=>z.elim
   obtain⟨_,H7,J7,⟨τ',hτ',rfl⟩,q7⟩:=h7
   have again:∀{σ8:St} {H8:Hp} {s8:Shared},Inv (aaQ X (xs++N') scope cl s3.heap.objs.size fp pins s3 H3) ([]++agN fp s6'.heap) σ8 H8 s8->tn (i+1) s8.heap/\∀b∈fp,H8 b=none:=fun {σ8 H8 s8} J8=>by
    refine⟨T.keep _ _ _ st6 fun b hb o e=>(J8.pin (b,o) (bY _ (bY _ (acE hb e)))).1,fun b hb=>?_⟩
    obtain⟨o,e,d⟩:=T.obj _ _ st6 b hb
    exact (J8.pin (b,o) (bY _ (bY _ (acE hb e)))).2.1
   refine dX (ht _ _ _ _ _ _ s7 _ H7 _ J7 q7) (fun ok s8 ⟨H8,J8,q8⟩=>?_) fun _ _ z=>z.elim
   cases ok with
   |false=>
    obtain⟨m',hm,w8⟩:=(show ∃m',m'<n/\W (i+1) m' H8 from q8)
    obtain⟨a1,a2⟩:=again J8
    exact⟨m',hm,i+1,τ',H8,hτ',J8.unpinned,a1,a2,w8⟩
   |true=>
    refine dX (he _ _ _ _ _ _ s8 _ H8 _ J8 q8) (fun y s9 ⟨z,H9,J9,r9,ys,hys,hlen,m',hm,w9⟩=>?_) fun _ _ z=>z.elim
    refine dX (aiK (X:=aaQ X (xs++N') scope cl s3.heap.objs.size fp pins s3 H3) _ s9 _ H9 (.ref D) [z] (.ref D) [y] (fun _ H10=>H10=upd H9 D (.lst (ys++[z]))) J9 rfl (.cons r9 .nil) ⟨D,ys,z,rfl,rfl,hys,hlen,rfl⟩) (fun _ s10 ⟨_,H10,J10,_,e10⟩=>?_) fun _ _ z=>z.elim
    subst e10
    obtain⟨a1,a2⟩:=again J10
    exact⟨m',hm,i+1,τ',_,hτ',J10.unpinned,a1,a2,w9⟩
 exact codeAny_compStart_list (loop _ rfl) (T.self _ 0 _ _ _ st4 (loop _ rfl))
theorem azL(hcl:Clos X scope cl)(hnd:(xs++N').Nodup)(hN:js.map (fun j=>X.N[j]?)=N'.map some)
  (hk:N'.all (fun y=>(X.env.kindOf y==some .cell)||(X.env.kindOf y==some .free))=true) (hf:N'.all (fun y=>scope.names.lookup y==some .free)=true) (hc:X.calm=true)
  (hi:PI X (tg) iter wi)
  (hg:∀(C:Addr) (ex:List Addr) (pins:List (Addr×Obj)) (s:Shared) (H:Hp),PG (aaQ X (xs++N') scope cl C ex pins s H) tg g)
  (ht:∀(C:Addr) (ex:List Addr) (pins:List (Addr×Obj)) (s:Shared) (H:Hp),PF (aaQ X (xs++N') scope cl C ex pins s H) ifs tt)
  (he:∀(C:Addr) (ex:List Addr) (pins:List (Addr×Obj)) (s:Shared) (H:Hp),PE (aaQ X (xs++N') scope cl C ex pins s H) elt te)
  (hs:∀x,foldedSetIterable iter X.env x=pure x:=by intro _;rfl):
  PE X (.ListComp elt [⟨tg,iter,ifs,0⟩] scope pos) (atT wi xs.length js g tt te):=by
 intro pins s σ H Q I h
 rw[eval_ListComp]
 refine dU (use:=none) rfl hs hcl.is hcl.kind hcl.names (thn (hi pins s σ H _ I h) fun xv s₁ h₁=>thn h₁ fun itv s₂ h₂=>?_)
 obtain⟨it,fp,tn,J,H2,rfl,I2,T,st,hfp,q⟩:=h₂
 refine ai0 (RR:=fun acc C=>compPost (model X.prog X.w) X.A X.xe none (EP X pins σ Q) acc C) hcl hnd hN hk hf hc hg ht he I2 T st hfp q ?_
 intro D C s' H' m I' hC0 hCL hCs hCc hCp hn hq
 refine⟨m,hn,fun h' sb=>⟨.ref D,H',?_,rfl,hq⟩⟩
 exact I'.turned (t':=s'.toks) (fun b o hb e=>(sb.2 b hb).trans e) hC0 hCL (.inr hCs) hCc hCp
theorem aw0(xs N':List Str)(js:List Nat)(hi:Il X (tg) iter wi)
  (hg:∀(cl:List (Str×Addr)) (C:Addr) (ex:List Addr) (pins:List (Addr×Obj)) (s:Shared) (H:Hp),Gt (aaQ X (xs++N') scope cl C ex pins s H) tg g)
  (ht:∀(cl:List (Str×Addr)) (C:Addr) (ex:List Addr) (pins:List (Addr×Obj)) (s:Shared) (H:Hp),Fs (aaQ X (xs++N') scope cl C ex pins s H) ifs tt)
  (he:∀(cl:List (Str×Addr)) (C:Addr) (ex:List Addr) (pins:List (Addr×Obj)) (s:Shared) (H:Hp),E (aaQ X (xs++N') scope cl C ex pins s H) elt te)
  (hcl:∃cl,Clos X scope cl:=by exact akR rfl rfl rfl rfl) (hnd:(xs++N').Nodup:=by decide +kernel) (hN:js.map (fun j=>X.N[j]?)=N'.map some:=by rfl)
  (hk:N'.all (fun y=>(X.env.kindOf y==some .cell)||(X.env.kindOf y==some .free))=true:=by rfl) (hf:N'.all (fun y=>scope.names.lookup y==some .free)=true:=by rfl) (hc:X.calm=true:=by rfl)
  (hs:∀x,foldedSetIterable iter X.env x=pure x:=by intro _;rfl):E X (.ListComp elt [⟨tg,iter,ifs,0⟩] scope pos) (atT wi xs.length js g tt te):=by
 obtain⟨cl,hcl⟩:=hcl
 exact⟨azL hcl hnd hN hk hf hc hi.h (fun C ex pins s H=>(hg cl C ex pins s H).h) (fun C ex pins s H=>(ht cl C ex pins s H).h) (fun C ex pins s H=>(he cl C ex pins s H).h) hs⟩
theorem axO(i:Nat)(xs N':List Str)(js:List Nat)(hi:Il X (tg) iter wi)
  (hg:∀(cl:List (Str×Addr)) (C:Addr) (ex:List Addr) (pins:List (Addr×Obj)) (s:Shared) (H:Hp),Gt (aaQ X (xs++N') scope cl C ex pins s H) tg g)
  (ht:∀(cl:List (Str×Addr)) (C:Addr) (ex:List Addr) (pins:List (Addr×Obj)) (s:Shared) (H:Hp),Fs (aaQ X (xs++N') scope cl C ex pins s H) ifs tt)
  (he:∀(cl:List (Str×Addr)) (C:Addr) (ex:List Addr) (pins:List (Addr×Obj)) (s:Shared) (H:Hp),E (aaQ X (xs++N') scope cl C ex pins s H) elt te)
  (hXN:X.N.Nodup) (hsw:swapsWith (.ListComp elt [⟨tg,iter,ifs,0⟩] scope pos) (some (.Name y py)) spos.line X.env=pure true:=by rfl)
  (hiN:X.N[i]? =some y:=by rfl) (hy:X.env.scope.names.lookup y=some .local:=by rfl)
  (hcl:∃cl,Clos X scope cl:=by exact akR rfl rfl rfl rfl) (hnd:(xs++N').Nodup:=by decide +kernel) (hN:js.map (fun j=>X.N[j]?)=N'.map some:=by rfl)
  (hk:N'.all (fun y=>(X.env.kindOf y==some .cell)||(X.env.kindOf y==some .free))=true:=by rfl) (hf:N'.all (fun y=>scope.names.lookup y==some .free)=true:=by rfl) (hc:X.calm=true:=by rfl)
  (hs:∀x,foldedSetIterable iter X.env x=pure x:=by intro _;rfl):S X (.Assign [.Name y py] (.ListComp elt [⟨tg,iter,ifs,0⟩] scope pos) spos) (awD (atT wi xs.length js g tt te) (ad5 i)):=by
 obtain⟨cl,hcl⟩:=hcl
 refine⟨fun pins s σ H D I h=>?_⟩
 rw[exec_Assign_Name_used _ _ _ _ hsw]
 refine dW (dR (dW ?_))
 show wpAny _ X.A (do let _ ←comprehension (.ListComp elt [⟨tg,iter,ifs,0⟩] scope pos) scope X.env _ (newList []) false (eval iter X.env) (some (assign (.Name y py) X.env))) _ _ s
 refine dW (dX (dU (use:=some (assign (.Name y py) X.env)) (Q:=fun _ s'=>SP X pins D .next s') rfl hs hcl.is hcl.kind hcl.names ?_) (fun _ s' hq=>eC (eC hq)) fun _ _ z=>z)
 refine thn (hi.h pins s σ H _ I h) fun xv s₁ h₁=>thn h₁ fun itv s₂ h₂=>?_
 obtain⟨it,fp,tn,J,H2,rfl,I2,T,st,hfp,q⟩:=h₂
 refine ai0 (Q:=fun v H'=>D.nx (σ.set i (some v)) H') (RR:=fun acc C=>compPost (model X.prog X.w) X.A X.xe (some (assign (.Name y py) X.env)) (fun _ s'=>SP X pins D .next s') acc C) hcl hnd hN hk hf hc (fun C ex pins s H=>(hg cl C ex pins s H).h) (fun C ex pins s H=>(ht cl C ex pins s H).h) (fun C ex pins s H=>(he cl C ex pins s H).h) I2 T st hfp q ?_
 intro D' C s' H' m I' hC0 hCL hCs hCc hCp hn hq
 show wpAny _ _ (assign (.Name y py) X.env (.ref D')) _ _ s'
 refine wpAny_assign_Name (ah8 I' hXN hiN (.inl hy) (v:=.ref D') rfl (fun s3 I3 sb3=>?_) (.inr hy))
 obtain⟨a3,sb3,e3⟩:=sb3
 have hCa:C≠a3:=by
  rcases e3 with e3 | e3
  ·rw[e3];exact hCL
  ·exact fun z=>hCc y a3 e3 z.symm
 refine⟨m,hn.sameBut sb3 hCa,fun h' sb=>⟨σ.set i (some (.ref D')),H',?_,hq⟩⟩
 exact I3.turned (t':=s3.toks) (fun b o hb e=>(sb.2 b hb).trans e) hC0 hCL (.inr hCs) hCc hCp
end
section
variable{js:List Nat}{σ:St}{tt:TT}{te:TE}{Q:VK}{H1:Hp}
end
theorem aBV{X:Cx}{pos:Pos}{K:FG}{es:List Expr}{k n:Nat}{t:TGs}(h:Gts X es t)(hK:X.K=K:=by rfl)(hc:X.calm=true:=by rfl)(hn:(assignEach es X.env).length=n:=by rfl)(hst:(assignEach es X.env).findIdx? (·.1)=none:=by rfl):Gt X (.Tuple es k pos) (ayR K n t):=by
 subst hK
 exact gTu h hc hn hst
section
variable{X:Cx}
end
section
variable{X:Cx}{elt iter tg:Expr}{xs:List Str}{y:Str}{py pos spos:Pos}{ifs:List Expr}{scope:Scope}{cl:List (Str×Addr)}{N':List Str}{js:List Nat}{tt:TT}{te:TE}{g:TG}{wi:TI}
end
end L2
namespace L2
open PySem PySem.Spec PyProof.Rows PySem.SeqAt
section
variable{X:Cx}
end
noncomputable def Kn(f:Obj->Prop):Prop:=∀(o:Obj) (vs:Array Value) (x:Value),o.data=.fields vs->f o->f (Obj.mapFields (·.setIfInBounds 1 x) o)
noncomputable def Trc(f:Obj->Prop)(fl:Value)(B h:Heap)(e:Addr):Prop:=∃(o:Obj) (vs:Array Value) (T:Addr) (oT:Obj) (ts:Array Value),
 (h.get? e=some o/\o.data=.fields vs/\vs[1]? =some (.ref T)/\f o)/\(h.get? T=some oT/\oT.data=.fields ts/\ts[3]? =some fl)/\B.get? T=none/\T≠e
structure Fg(f:Obj->Prop)(fl:Value)(B:Heap)(l:List Env)(e:Addr)(h:Heap):Prop where
 st:B.StaysIn h
 nb:B.get? e=none
 ff:h.FunFrames B l
 tr:Trc f fl B h e
theorem an1{h:Heap}{T:Addr}{oT:Obj}{ts:Array Value}(hT:h.get? T=some oT)(hd:oT.data=.fields ts){b:Addr}{o:Obj}(e:h.get? b=some o)(n:∀vs,o.data≠ .fields vs):b≠T:=fun z=>by
 subst z
 cases hT.symm.trans e
 exact n ts hd
section
variable{M:Model}{A:Around}{E:Value->Shared->Prop}{s:Shared}{f:Obj->Prop}{B:Heap}{env:Env}{outer l:List Env}{L e:Addr}{fl:Value}{Q:Unit->Shared->Prop}
theorem ar6{o:Obj}{vs:Array Value}{head:Value}{had:Bool}(kn:Kn f)(hA:A.frames=some (env::outer))(hL:env.frame=some L)(ff:s.heap.FunFrames B (env::outer))(st:B.StaysIn s.heap)(nb:B.get? e=none)
  (he:s.heap.get? e=some o) (hd:o.data=.fields vs) (sz:1<vs.size) (ho:f o) (k:∀h',Fg f (rawInt L) B (env::outer) e h'->s.heap.UpToSlots h'->Q () {s with heap:=h'}):
  wpAny M A (do let a ←frameOf env;let pl ←entryPlaceOf L had;let b ←EntryCells.newEntry head a .none (rawInt L) .none pl;setField (.ref e) 1 b) Q E s:=by
 have out:e∉(env::outer).filterMap (·.frame):=fun z=>by
  obtain⟨_,o',q,nf⟩:=ff.mem z
  cases he.symm.trans q
  exact nf vs hd
 refine dW (wpAny_frameOf_fun hA ff hL fun g sl=>dW (wpAny_entryPlaceOf fun pl pok=>?_))
 unfold EntryCells.newEntry newFields
 refine dW (wpAny_newObj_type ?_ (pok.sizeOk5 _ _ _ _ _))
 have t3:([head,Value.ref L,.none,rawInt L,.none]++(if pl.isEmpty then List.replicate 6 Value.none else pl)).toArray[3]? =some (rawInt L):=by
  rw[List.getElem?_toArray]
  rfl
 generalize ([head,Value.ref L,.none,rawInt L,.none]++(if pl.isEmpty then List.replicate 6 Value.none else pl)).toArray=ts at t3
 have e1:g.get? e=some o:=(sl.2.1 e out).trans he
 have st1:B.StaysIn g:=fun b ob q=>(sl.2.1 b fun z=>by rw[(ff.mem z).1] at q;cases q).trans (st b ob q)
 have e2:=bB (h:=g) {cls:=.type "traceback",data:=.fields ts} e1
 have far:g.objs.size≠e:=cF (aY e1)
 have dat:=Obj.data_mapFields hd (·.setIfInBounds 1 (Value.ref g.objs.size))
 have e3:=Heap.get?_update_self (Obj.mapFields (·.setIfInBounds 1 (Value.ref g.objs.size))) e2 (Obj.isFreed_of_fields dat)
 have k1:∀b ob,b≠e->g.get? b=some ob->((g.push {cls:=.type "traceback",data:=.fields ts}).update e (Obj.mapFields (·.setIfInBounds 1 (Value.ref g.objs.size)))).get? b=some ob:=fun b ob n q=>
  (cY _ _ (Ne.symm n)).trans (bB _ q)
 refine wpAny_setField e2 hd sz (k _ ⟨fun b ob q=>k1 b ob (fun z=>by rw[z,nb] at q;cases q) (st1 b ob q),nb,ff.of_keeps fun b ob q n=>?_,?_⟩ fun b ob q n=>?_)
 ·obtain⟨x,q1⟩:=sl.2.2 b ob q
  exact⟨_,k1 b _ (an1 he hd q n) q1,rfl⟩
 ·exact⟨_,_,g.objs.size,_,ts,⟨e3,dat,by simp[sz],kn o vs _ hd ho⟩,⟨(cY _ _ (Ne.symm far)).trans (bL g rfl),rfl,t3⟩,st1.fresh,far⟩
 ·obtain⟨x,q1⟩:=sl.2.2 b ob q
  exact⟨x,k1 b _ (an1 he hd q n) q1⟩
theorem ayA{o:Obj}{vs:Array Value}(kn:Kn f)(hA:A.frames=some (env::outer))(hL:env.frame=some L)(ff:s.heap.FunFrames B (env::outer))(st:B.StaysIn s.heap)(nb:B.get? e=none)
  (he:s.heap.get? e=some o) (hd:o.data=.fields vs) (h1:vs[1]? =some .none) (ho:f o) (k:∀h',Fg f (rawInt L) B (env::outer) e h'->s.heap.UpToSlots h'->Q () {s with heap:=h'}):wpAny M A (noteFrame (.ref e) env) Q E s:=by
 unfold noteFrame
 simp only[hL]
 refine dW (wpAny_field he hd h1 ?_)
 rw[if_neg (by decide)]
 exact ar6 kn hA hL ff st nb he hd (dQ.mp h1).1 ho k
theorem auW(v:Option Addr)(F:Fg f fl B l e s.heap)(k:∀h',Fg f (v.elim .none fun q=>rawInt q) B l e h'->s.heap.UpToSlots h'->Q () {s with heap:=h'}):wpAny M A (setFlight (.ref e) v) Q E s:=by
 obtain⟨o,vs,T,oT,ts,⟨he,hd,h1,ho⟩,⟨hT,dT,h3⟩,nT,ne⟩:=F.tr
 have s3:3<ts.size:=(dQ.mp h3).1
 have oth:∀b,b≠T->(s.heap.update T (Obj.mapFields (·.setIfInBounds 3 (v.elim Value.none fun q=>rawInt q)))).get? b=s.heap.get? b:=fun b n=>cY _ _ n.symm
 unfold setFlight
 refine dW (wpAny_field he hd h1 ?_)
 rw[if_pos (by simp)]
 refine wpAny_setField hT dT s3 (k _ ⟨fun b ob q=>(oth b fun z=>by rw[z,nT] at q;cases q).trans (F.st b ob q),F.nb,F.ff.of_keeps fun b ob q n=>⟨ob,(oth b (an1 hT dT q n)).trans q,rfl⟩,?_⟩ fun b ob q n=>⟨ob.slots,(oth b (an1 hT dT q n)).trans q⟩)
 exact⟨o,vs,T,_,_,⟨(oth e ne.symm).trans he,hd,h1,ho⟩,⟨Heap.get?_update_self _ hT (Obj.isFreed_of_fields (Obj.data_mapFields dT _)),Obj.data_mapFields dT _,by simp[s3]⟩,nT,ne⟩
theorem aBS(kn:Kn f)(hA:A.frames=some (env::outer))(hL:env.frame=some L)(F:Fg f .none B (env::outer) e s.heap)(k:∀h',Fg f (rawInt L) B (env::outer) e h'->s.heap.UpToSlots h'->Q () {s with heap:=h'}):
  wpAny M A (noteFrame (.ref e) env) Q E s:=by
 obtain⟨o,vs,T,oT,ts,⟨he,hd,h1,ho⟩,⟨hT,dT,h3⟩,nT,ne⟩:=F.tr
 have oth:∀b,b≠T->(s.heap.update T (Obj.mapFields (·.setIfInBounds 3 Value.none))).get? b=s.heap.get? b:=fun b n=>cY _ _ n.symm
 unfold noteFrame
 simp only[hL]
 refine dW (wpAny_field he hd h1 ?_)
 rw[if_pos (by simp)]
 refine dW (wpAny_field hT dT h3 ?_)
 rw[if_neg (by simp[rawInt])]
 refine dW (wpAny_setField hT dT (dQ.mp h3).1 ?_)
 refine ar6 kn hA hL (F.ff.of_keeps fun b ob q n=>⟨ob,(oth b (an1 hT dT q n)).trans q,rfl⟩) (fun b ob q=>(oth b fun z=>by rw[z,nT] at q;cases q).trans (F.st b ob q)) F.nb ((oth e ne.symm).trans he) hd (dQ.mp h1).1 ho fun h' F' up=>k h' F' fun b ob q n=>up b ob ((oth b (an1 hT dT q n)).trans q) n
theorem Fg.out{h:Heap}(F:Fg f fl B (env::outer) e h):Fg f fl B outer e h:=⟨F.st,F.nb,F.ff.2.2,F.tr⟩
theorem avR(kn:Kn f)(hA:A.frames=some (env::outer))(hL:env.frame=some L)(F:Fg f .none B (env::outer) e s.heap)(k:∀h',Fg f .none B outer e h'->s.heap.UpToSlots h'->Q () {s with heap:=h'}):wpAny M A (leaving env (.ref e)) Q E s:=
 dW (aBS kn hA hL F fun _ F1 u1=>auW none F1 fun h2 F2 u2=>k h2 F2.out (u1.trans u2))
theorem atQ{o:Obj}{vs:Array Value}(kn:Kn f)(hA:A.frames=some (env::outer))(hL:env.frame=some L)(ff:s.heap.FunFrames B (env::outer))(st:B.StaysIn s.heap)(nb:B.get? e=none)
  (he:s.heap.get? e=some o) (hd:o.data=.fields vs) (h1:vs[1]? =some .none) (ho:f o) (k:∀h',Fg f .none B outer e h'->s.heap.UpToSlots h'->Q () {s with heap:=h'}):wpAny M A (leaving env (.ref e)) Q E s:=
 dW (ayA kn hA hL ff st nb he hd h1 ho fun _ F1 u1=>auW none F1 fun h2 F2 u2=>k h2 F2.out (u1.trans u2))
end
theorem ObjOk.at{P:Program}{w:World}{H:Hp}{h:Heap}{a:Addr}{o:HO}(x:ObjOk P w H h a o):∃ob,h.get? a=some ob:=by
 induction o with
 |lst xs=>obtain⟨_,_,_,_,e⟩:=x;exact⟨_,e⟩
 |tup xs=>obtain⟨_,_,_,ob,e,_⟩:=x;exact⟨_,e⟩
 |dK kvs=>obtain⟨_,_,_,_,ob,_,_,e,_⟩:=x;exact⟨_,e⟩
 |dT kvs=>obtain⟨_,_,_,_,ob,_,_,e,_⟩:=x;exact⟨_,e⟩
 |set S n=>obtain⟨ob,_,_,_,e,_⟩:=x;exact⟨_,e⟩
 |ins C dx fs=>obtain⟨_,_,_,e,_⟩:=x;exact⟨_,e⟩
 |own y=>exact x
 |xd fs=>obtain⟨_,⟨ob,_,_,e,_⟩,_⟩:=x;exact⟨_,e⟩
 |rng lo hi=>obtain⟨_,_,_,e⟩:=x;exact⟨_,e⟩
 |frz ob u ih=>exact⟨_,x.1⟩
 |tbl ps=>exact⟨_,x⟩
 |met f y=>exact⟨_,x⟩
 |ext φ=>exact x.2.1
noncomputable def Ex(C:Addr)(d:Option Addr)(b:Bool)(o:Obj):Prop:=o.cls=.ref C/\o.dict=d/\∃vs,o.data=.fields vs/\(b=true->vs[2]? =some .none)
theorem aB3(C:Addr)(d:Option Addr)(b:Bool):Kn (Ex C d b):=fun o vs x hd ⟨h1,h2,ws,h3,h4⟩=>by
 cases hd.symm.trans h3
 refine⟨(Obj.cls_mapFields _ _).trans h1,?_,_,Obj.data_mapFields hd _,fun z=>?_⟩
 ·rw[←h2]
  obtain⟨c,dd,dt,sl⟩:=o
  cases hd
  rfl
 ·rw[Array.getElem?_setIfInBounds_ne (by decide)]
  exact h4 z
noncomputable def wc(C:Addr):Value:=.int C 0
noncomputable def cv(C:Addr):Bool->Value
 |true=>.ref C
 |false=>wc C
noncomputable def Fly(g h:Heap)(H:Hp)(a C:Addr)(d:Option Addr)(b:Bool):Prop:=
 H a=none/\g.get? a=none/\∃(o:Obj) (vs:Array Value) (T:Addr) (oT:Obj) (ts:Array Value),(h.get? a=some o/\o.data=.fields vs/\vs[1]? =some (.ref T)/\Ex C d b o)/\
  (h.get? T=some oT/\oT.data=.fields ts/\ts[3]? =some .none)/\(H T=none/\g.get? T=none)/\T≠a
noncomputable def CX1(P:Program)(w:World):CXT:=fun outer H s E e s'=>
 ∃a C d b H',e=.ref a/\s'.os=s.os/\AllBare s'.gens/\Un (frs outer) [] H H' s.heap s'.heap/\HOk P w H' s'.heap/\Fly s.heap s'.heap H' a C d b/\E (cv C b) d H'
theorem ayZ{P:Program}{w:World}{fs:List Addr}{l:List Env}{H0 H:Hp}{g h1 h2:Heap}{hid:List Addr}{a C:Addr}{d:Option Addr}{b0:Bool}(u:Un fs [] H0 H g h1)(hok:HOk P w H h1)(frf:∀b∈fs,H b=none)
  (ff:∀b∈fs,∃o,h1.get? b=some o/\∀vs,o.data≠ .fields vs) (hh:∀b∈hid,b∈fs∨(H b=none/\g.get? b=none)) (fl:Fg (Ex C d b0) .none (PySem.W.hideAll h1 hid) l a h2) (up:h1.UpToSlots h2)
  (hga:g.get? a=none) (Ha:H a=none):Un fs [] H0 H g h2/\HOk P w H h2/\Fly g h2 H a C d b0:=by
 have keep:∀b o,h1.get? b=some o->b∉hid->h2.get? b=some o:=fun b o e n=>fl.st b o (PySem.W.hideAll_get _ e n)
 have nofr:∀b o vs,b∈fs->h2.get? b=some o->o.data≠ .fields vs:=fun b o vs hb e=>by
  obtain⟨o1,e1,nf⟩:=ff b hb
  obtain⟨sl,e2⟩:=up b o1 e1 nf
  rw[e] at e2
  cases e2
  exact nf vs
 have slots:∀b o,b∈fs->h1.get? b=some o->∃sl,h2.get? b=some {o with slots:=sl}:=fun b o hb e=>by
  obtain⟨o1,e1,nf⟩:=ff b hb
  rw[e] at e1
  cases e1
  exact up b o e nf
 have nhid:∀b o,b∉fs->g.get? b=some o->b∉hid:=fun b o nb e hb=>by
  rcases hh b hb with z | ⟨_,z⟩
  ·exact nb z
  ·rw[e] at z;cases z
 have thid:∀b o,H b=some o->b∉hid:=fun b o e hb=>by
  rcases hh b hb with z | ⟨z,_⟩
  ·rw[frf b z] at e;cases e
  ·rw[e] at z;cases z
 refine⟨⟨fun b o e n hb hx=>keep b o (u.keep b o e n hb hx) (nhid b o hb e),fun b o e n hb hx=>?_,u.free,fun b o e hx=>?_,u.tups,u.frzs,u.tbls⟩,fun b ob e=>?_,Ha,hga,?_⟩
 ·obtain⟨sl,e1⟩:=u.slot b o e n hb hx
  obtain⟨sl',e2⟩:=slots b _ hb e1
  exact⟨sl',e2⟩
 ·obtain⟨o',e1⟩:=u.there b o e hx
  by_cases hb:b∈fs
  ·obtain⟨sl,e2⟩:=slots b _ hb e1
   exact⟨_,e2⟩
  ·exact⟨o',keep b o' e1 (nhid b o hb e)⟩
 ·refine (hok b ob e).stay (fun c v hc q=>keep c v q ?_) (fun _ q=>q) fun _ _ q=>q
  rcases hc with z | z
  ·rw[z];exact thid b ob e
  ·exact thid c _ z
 ·obtain⟨o,vs,T,oT,ts,ho,hT,hnT,hTe⟩:=fl.tr
  have nT:T∉fs:=fun z=>nofr T oT ts z hT.1 hT.2.1
  refine⟨o,vs,T,oT,ts,ho,hT,⟨?_,?_⟩,hTe⟩
  ·cases q:H T with
   |none=>rfl
   |some o=>
    obtain⟨ob,e⟩:=(hok T o q).at
    have:=PySem.W.hideAll_get _ e (thid T o q)
    rw[hnT] at this;cases this
  ·cases q:g.get? T with
   |none=>rfl
   |some o=>
    obtain⟨ob,e⟩:=u.there T o q (by simp)
    have:=PySem.W.hideAll_get _ e (nhid T o nT q)
    rw[hnT] at this;cases this
theorem Fly.flying{bs g h:Heap}{H:Hp}{a C:Addr}{d:Option Addr}{b:Bool}{l:List Env}(f:Fly g h H a C d b)(ff:h.FunFrames bs l):∃T,(H T=none/\g.get? T=none)/\Fg (Ex C d b) .none (PySem.W.hideAll h (frs l++[a,T])) l a h:=by
 obtain⟨_,_,o,vs,T,oT,ts,ho,hT,fT,nT⟩:=f
 exact⟨T,fT,fun b o e=>PySem.W.of_hideAll _ e,PySem.W.hideAll_none _ (by simp),PySem.W.funFrames_hide ff fun env he b hb=>List.mem_append_left _ (b7.mpr ⟨env,he,hb⟩),o,vs,T,oT,ts,ho,hT,PySem.W.hideAll_none _ (by simp),nT⟩
theorem aI9{bs h:Heap}{l:List Env}(ff:h.FunFrames bs l):∀b∈frs l,∃o,h.get? b=some o/\∀vs,o.data≠ .fields vs:=fun b hb=>(ff.mem hb).2
section
variable{P:Program}{w:World}{K:FG}{mg:Str->Option Value}{base:Heap}{N:List Str}{qual:Str}{scope:Scope}{f:Addr}{cd:Value}{A:Around}{outer:List Env}{s0:Shared}{H0:Hp}{E:XK}
theorem an9{pins:List (Addr×Obj)}{σ:St}{H:Hp}{s:Shared}(I:Inv (adI (CX1 P w) P w K mg base N qual scope f cd A outer s0 H0 E) pins σ H s):∀b∈frs (adI (CX1 P w) P w K mg base N qual scope f cd A outer s0 H0 E).stack,b∈frs outer∨(H b=none/\s0.heap.get? b=none):=fun b hb=>by
 have hb:b∈frs (envOfC qual scope s0.heap.objs.size f cd::outer):=hb
 have q:b=s0.heap.objs.size∨b∈frs outer:=by
  obtain⟨env,he,hf⟩:=b7.mp hb
  rcases aX.mp he with rfl | he
  ·exact .inl (bA hf).symm
  ·exact .inr (b7.mpr ⟨env,he,hf⟩)
 rcases q with rfl | q
 ·exact .inr ⟨I.free,Heap.get?_none_of_le (aV _)⟩
 ·exact .inl q
theorem Inv.gone{X:Cx}{pins:List (Addr×Obj)}{σ:St}{H:Hp}{s:Shared}(I:Inv X pins σ H s)(hx:X.ex=[]){b:Addr}(e:s.heap.get? b=none):X.s₀.heap.get? b=none:=by
 cases q:X.s₀.heap.get? b with
 |none=>rfl
 |some o=>
  obtain⟨o',z⟩:=I.base.there b o q (by rw[hx];simp)
  rw[e] at z;cases z
theorem asA:acH (CX1 P w) (adI (CX1 P w) P w K mg base N qual scope f cd A outer s0 H0 E) E:=by
 intro pins σ H s e s' I h
 obtain⟨a,C,d,b,H',rfl,os,bare,un,hok,fly,q⟩:=h
 have I':Inv (adI (CX1 P w) P w K mg base N qual scope f cd A outer s0 H0 E) pins σ H' s':=I.call' os un hok bare (fun _ z=>nomatch z)
 obtain⟨T,hT,fl⟩:=fly.flying I'.stack
 refine avR (L:=s0.heap.objs.size) (aB3 C d b) I.ok.frames rfl fl fun h2 fl2 up=>?_
 obtain⟨u2,hok2,fly2⟩:=ayZ (fs:=frs outer) I'.base I'.hok (fun b hb=>I'.stkFree b (by
   obtain⟨env,he,hf⟩:=b7.mp hb
   exact b7.mpr ⟨env,bF _ he,hf⟩)) (aI9 I'.funs) (fun b hb=>by
  rcases bZ.mp hb with z | z
  ·exact an9 I' b z
  ·rcases aX.mp z with rfl | z
   ·exact .inr ⟨fly.1,I.gone rfl fly.2.1⟩
   ·obtain rfl:b=T:=by simpa using z
    exact .inr ⟨hT.1,I.gone rfl hT.2⟩) fl2 up (I.gone rfl fly.2.1) fly.1
 exact⟨a,C,d,b,H',rfl,I'.os,I'.bare,u2,hok2,fly2,q⟩
theorem aGT{pins:List (Addr×Obj)}{σ:St}{H:Hp}{s:Shared}{a C:Addr}{d:Option Addr}{b:Bool}{o:Obj}{vs:Array Value}(I:Inv (adI (CX1 P w) P w K mg base N qual scope f cd A outer s0 H0 E) pins σ H s)(Ha:H a=none)(ga:s0.heap.get? a=none)
  (ho:s.heap.get? a=some o) (hd:o.data=.fields vs) (h1:vs[1]? =some .none) (hx:Ex C d b o) (q:E (cv C b) d H):(adI (CX1 P w) P w K mg base N qual scope f cd A outer s0 H0 E).xe (.ref a) s:=by
 refine atQ (B:=PySem.W.hideAll s.heap (frs (envOfC qual scope s0.heap.objs.size f cd::outer)++[a])) (L:=s0.heap.objs.size) (aB3 C d b) I.ok.frames rfl (PySem.W.funFrames_hide I.stack fun env he b hb=>List.mem_append_left _ (b7.mpr ⟨env,he,hb⟩)) (fun b o e=>PySem.W.of_hideAll _ e) (PySem.W.hideAll_none _ (by simp)) ho hd h1 hx fun h2 fl2 up=>?_
 obtain⟨u2,hok2,fly2⟩:=ayZ (fs:=frs outer) I.base I.hok (fun b hb=>I.stkFree b (by
   obtain⟨env,he,hf⟩:=b7.mp hb
   exact b7.mpr ⟨env,bF _ he,hf⟩)) (aI9 I.funs) (fun b hb=>by
  rcases bZ.mp hb with z | z
  ·exact an9 I b z
  ·obtain rfl:b=a:=by simpa using z
   exact .inr ⟨Ha,ga⟩) fl2 up ga Ha
 exact⟨a,C,d,b,H,rfl,I.os,I.bare,u2,hok2,fly2,q⟩
end
noncomputable abbrev aMR:List Value:=[.type "ValueError",.type "Exception",.type "BaseException",.type "object"]
structure Xc(K:FG)(mg:Str->Option Value)(x:Str)(C:Addr):Prop where
 m:mg x=some (.ref C)
 n:PySem.W.nsIn K mainGlobals x=some (some (.ref C))
 q:PySem.W.excIn K C aMR "ValueError.__new__"=true
theorem Mod.top{K:FG}{mg:Str->Option Value}{base:Heap}(m:Mod K mg base)(p:Program):∃loose mb,PySem.W.TopRead p loose mg mb base:=by
 obtain⟨mb,b1,b2⟩:=m.blt
 obtain⟨o,es,ep,ho,hd,hk,hf⟩:=id m.glob
 refine⟨es.toList.filterMap fun e=>match e.key with | .str y _=>some y | _=>none,mb,m.glob,b1,m.nolimit,b2,fun x _ hx _ _ _=>?_⟩
 rw[←hf]
 have none_:es.find? (fun e=>e.key.isStr x)=none:=by
  rw[Array.find?_eq_none]
  intro e he hs
  obtain⟨y,t,ek⟩:=hk e he
  refine hx (b7.mpr ⟨e,by simpa using he,?_⟩)
  rw[ek] at hs ⊢
  have:y=x:=by simpa [Value.isStr] using hs
  rw[this]
 show (es.find? fun e=>e.key.isStr x).map (·.val)=none
 rw[none_]
 rfl
theorem Xc.own{K:FG}{mg:Str->Option Value}{base:Heap}{x:Str}{C:Addr}(c:Xc K mg x C)(m:Mod K mg base)(p:Program):OwnCls x C aMR "ValueError.__new__" mg base:=by
 obtain⟨loose,mb,T⟩:=m.top p
 exact PySem.W.own_of_in m.kin T c.n c.q
noncomputable def axW(C:Addr)(E:XK)(t:TA):TS:=fun _ σ H=>t σ H fun vs H1=>vs.length<=sizeLine/\E (.ref C) none H1
noncomputable def aD9(X:Cx)(E:XK):Prop:=∀(pins:List (Addr×Obj)) (σ:St) (H:Hp) (s:Shared) (a C:Addr) (d:Option Addr) (b:Bool) (o:Obj) (vs:Array Value),Inv X pins σ H s->H a=none->X.s₀.heap.get? a=none->s.heap.get? a=some o->o.data=.fields vs->vs[1]? =some .none->Ex C d b o->E (cv C b) d H->X.xe (.ref a) s
theorem Inv.newX{X:Cx}{pins:List (Addr×Obj)}{σ:St}{H:Hp}{s:Shared}{a:Addr}(I:Inv X pins σ H s)(hx:X.ex=[])(e:s.heap.get? a=none):H a=none/\X.s₀.heap.get? a=none:=by
 refine⟨?_,I.gone hx e⟩
 cases q:H a with
 |none=>rfl
 |some o=>
  obtain⟨ob,z⟩:=(I.hok a o q).at
  rw[e] at z;cases z
section
variable{X:Cx}{E:XK}{x:Str}{C:Addr}{e:Expr}{es:List Expr}{t:TA}{np cpos pos:Pos}
theorem ayP(hM:aD9 X E)(c:Xc X.K X.mg x C)(ha:PA X (e::es) t)(hex:X.ex=[]:=by rfl)(hc:X.calm=true:=by rfl)(hg:Gl X x:=by rfl)(hdb:(x==("__debug__":Str))=false:=by decide)
  (he:starEach (e::es) X.env=(false,eval e X.env)::starEach es X.env:=by rfl) (hpl:(backTo cpos (starEach es X.env)).any (·.1)=false:=by rfl):
  PS X (.Raise (some (.Call (.Name x np) (e::es) [] cpos)) none pos) (axW C E t):=by
 intro pins s σ H D I h
 obtain⟨tl,N,_,_,_,_,_,_,_,_,_,_,_,_,_,_,mN,hC,hN,no,T⟩:=(c.own I.ok.mod X.prog).obj
 have pl:(backTo cpos (starEach (e::es) X.env)).any (·.1)=false:=by
  rw[he]
  exact hpl
 refine' wpAny_Raise_call_subT (N:=N) (bm:=tl) (mN:=mN) PySem.F.excBase_ValueError (T.hasType (by decide)) (I.ok.hd hc) pl no (adX I hg c.m ⟨rfl,?main⟩ hdb)
 case main=>
  have hw:=ha cpos pins s σ H _ I h
  rw[he] at hw ⊢
  exact Calls.evalArgs_plain (thn hw fun us s2 ⟨vs,H2,I2,r,hz,q⟩=>⟨rfl,by rw[←r.length];exact hz,I2.bk _ _ hC,hN.keeps I2.bk,T.keeps I2.bk,fun h' a mk=>by
   obtain⟨t0,there,_,_⟩:=mk.there
   obtain⟨Ha,ga⟩:=I2.newX hex mk.new
   exact hM pins σ H2 {s2 with heap:=h'} a C none true _ _ (I2.kept (t':=s2.toks) mk.keeps) Ha ga there rfl rfl ⟨rfl,rfl,_,rfl,fun _=>rfl⟩ q⟩)
end
section
variable{P:Program}{w:World}{K:FG}{mg:Str->Option Value}{base:Heap}{N:List Str}{qual:Str}{scope:Scope}{f:Addr}{cd:Value}{A:Around}{outer:List Env}{s0:Shared}{H0:Hp}{E:XK}
theorem arD:aD9 (adI (CX1 P w) P w K mg base N qual scope f cd A outer s0 H0 E) E:=fun _ _ _ _ _ _ _ _ _ _ I h1 h2 h3 h4 h5 h6 q=>aGT I h1 h2 h3 h4 h5 h6 q
end
theorem aaJ{X:Cx}{P:Program}{w:World}:acH (CX1 P w) X E0:=fun _ _ _ _ _ _ _ ⟨_,_,_,_,_,_,_,_,_,_,_,q⟩=>q.elim
structure Df1(P:Program)(w:World)(K:FG)(mg:Str->Option Value)(base:Heap)(x:Str)(k:Nat)(ps:List Str)(sp:Sp):Prop where
 ex:∃(f:Addr) (fd:FuncData),FnOk P w K mg base (CX1 P w) k f fd ps sp/\Binds K fd ps []/\mg x=some (.ref f)/\PySem.W.keepIn K (.ref f)=true
section
variable{P:Program}{w:World}{K:FG}{mg:Str->Option Value}{base:Heap}{x:Str}{st:Stmt}{ps N:List Str}{k:Nat}{sp:Sp}
theorem Fn.dfs1(F:Fn K mg x st ps)(S':FnScope N ps (aaC st))(len:∀vs H Q E,sp vs H Q E->vs.length=ps.length)
  (hbody:∀(f:Addr) (cdv:Value) (A:Around) (outer:List Env) (s:Shared) (H:Hp) (vs:List V) (Q:VK) (E:XK),Room k (A.deeper (envOfC x (aaC st) s.heap.objs.size f cdv))->sp vs H Q E->
   ∃t,Ss (adI (CX1 P w) P w K mg base N x (aaC st) f cdv A outer s H E) (aa4 st) t/\t {nx:=fun _ H'=>Q .non H',rt:=Q} (start N vs) H):Df1 P w K mg base x (k+1) ps sp:=by
 obtain⟨f,fd,F1,hb,hm⟩:=F.ex
 have kp:=F1.kp
 obtain⟨oc,od,kV,doc,pm,an,cdv,ct,osl,rfl,lk,hcd⟩:=F1.ex
 refine⟨⟨f,_,au9 lk hcd S' len fun A outer s H vs Q E hr hsp=>?_,hb,hm,kp⟩⟩
 obtain⟨t,h,q⟩:=hbody f cdv A outer s H vs Q E hr hsp
 exact⟨t,h.h,q⟩
end
noncomputable def XP(X:Cx)(pins:List (Addr×Obj))(σ:St)(E:XK)(e:Value)(s':Shared):Prop:=∃s1 H1,Inv X pins σ H1 s1/\CX1 X.prog X.w X.stack H1 s1 E e s'
noncomputable abbrev TX:=St->Hp->VK->XK->Prop
noncomputable abbrev TB:=Ends->St->Hp->XK->Prop
section
variable{X:Cx}{k k':Nat}{ps:List Str}{sp:Sp}{x:Str}{e:Expr}{es:List Expr}{tA:TA}{p pos:Pos}{t:TX}
end
section
variable{X:Cx}{pins:List (Addr×Obj)}{σ:St}{H:Hp}{s:Shared}
end
noncomputable def xo(a C:Addr)(d:Option Addr)(b:Bool):HO:=.ext fun h=>∃o,h.get? a=some o/\Ex C d b o
section
variable{X:Cx}{body suite:List Stmt}{b0:Stmt}{tb:TB}{th:Addr->TS}{cx n:Str}{np hpos pos:Pos}{CF:Addr}
end
section
variable{X:Cx}{E:XK}{x:Str}{C:Addr}{e:Expr}{es:List Expr}{tA:TA}{np cpos pos p:Pos}{k k':Nat}{ps:List Str}{sp:Sp}
theorem sRz(hM:aD9 X E)(c:Xc X.K X.mg x C)(ha:As X (e::es) tA)(hex:X.ex=[]:=by rfl)(hc:X.calm=true:=by rfl)(hg:Gl X x:=by rfl)(hdb:(x==("__debug__":Str))=false:=by decide)
  (he:starEach (e::es) X.env=(false,eval e X.env)::starEach es X.env:=by rfl) (hpl:(backTo cpos (starEach es X.env)).any (·.1)=false:=by rfl):
  S X (.Raise (some (.Call (.Name x np) (e::es) [] cpos)) none pos) (axW C E tA):=⟨ayP hM c ha.h hex hc hg hdb he hpl⟩
theorem eD1(D:Df1 X.prog X.w X.K X.mg X.base x k ps sp)(hr:Room k' X.A)(hp:acH (CX1 X.prog X.w) X E)(ha:As X (e::es) tA)(hk:k<=k':=by decide)(hg:Gl X x:=by rfl)
  (hdb:(x==("__debug__":Str))=false:=by decide) (he:starEach (e::es) X.env=(false,eval e X.env)::starEach es X.env:=by rfl) (hpl:(backTo pos (starEach es X.env)).any (·.1)=false:=by rfl):
  L2.E X (.Call (.Name x p) (e::es) [] pos) (ai2 sp [] E tA):=by
 obtain⟨f,fd,F,hb,hm,kp⟩:=D.ex
 exact⟨auU F (hr.mono hk) hg hm kp hb .nil hp ha.h hdb he hpl⟩
end
section
open PySem.W
variable{prog:Program}{w:World}{A:Around}{E:Value->Shared->Prop}{s:Shared}{K:FG}{a C:Addr}
open Builtin Builtin.ObjectAttr Builtin.Getset_descriptor in
open Builtin Builtin.ObjectAttr in
end
section
variable{X:Cx}{body suite:List Stmt}{b0:Stmt}{tb:TB}{th:Addr->TS}{cx:Str}{np hpos pos:Pos}{CF:Addr}
end
section
variable{prog:Program}{w:World}{A:Around}{E:Value->Shared->Prop}{s:Shared}{e C a:Addr}{d:Option Addr}
end
section
variable{prog:Program}{w:World}{A:Around}{E:Value->Shared->Prop}{s:Shared}{env:Env}{e C a:Addr}{d:Option Addr}
end
section
variable{P:Program}{w:World}{K:FG}{mg:Str->Option Value}{base:Heap}{N:List Str}{qual:Str}{scope:Scope}{f:Addr}{cd:Value}{A:Around}{outer:List Env}{s0:Shared}{H0:Hp}{E:XK}
end
section
variable{X:Cx}{E:XK}{x:Str}{C a:Addr}{e:Expr}{es:List Expr}{t:TA}{np cpos pos p2:Pos}{j:Nat}
end
section
variable{X:Cx}{pos:Pos}{o i:Expr}{to ti:TE}
theorem gSb(ho:E X o to)(hi:E X i ti)(ha:∀v,assign (.Subscript o i pos) X.env v=(do
   let ov ←holding [v] (eval o X.env)
   let iv ←holding [v,ov] (eval i X.env)
   standAt pos
   holding [v,ov,iv] (setItem ov iv v)
   release [v,ov,iv] []):=by intro _;rfl):Gt X (.Subscript o i pos) (aO8 to ti aCQ):=⟨aDV ho.h hi.h awV ha⟩
end
section
variable{X:Cx}
end
section
variable{js:List Nat}{σ:St}{tt:TT}{te:TE}{Q:VK}{H1:Hp}
end
noncomputable def afT(l:List Nat)(lo hi:Option Int):List Nat:=(l.drop (HT.sIx l.length 0 lo)).take (HT.sIx l.length l.length hi-HT.sIx l.length 0 lo)
theorem aCC(v:Option Int)(n d:Nat):(match v with | none=>(d:Int) | some i=>max 0 (min (if i<0 then i+(n:Int) else i) (n:Int)))=((HT.sIx n d v:Nat):Int):=by
 cases v with
 |none=>rfl
 |some i=>
  show max 0 (min (if i<0 then i+(n:Int) else i) (n:Int))=(((if i<0 then (i+(n:Int)).toNat else min i.toNat n):Nat):Int)
  by_cases h:i<0
  ·rw[if_pos h,if_pos h];omega
  ·rw[if_neg h,if_neg h];omega
theorem axE(lo hi:Option Int)(n:Nat):Builtin.Str.strSliceIndices lo hi 1 n=sliceRange ((HT.sIx n 0 lo:Nat):Int) ((HT.sIx n n hi:Nat):Int) 1:=by
 unfold Builtin.Str.strSliceIndices
 simp only[show ((1:Int)>0)=True from by simp,if_true]
 rw[←aCC lo n 0,←aCC hi n n]
 cases lo<;>cases hi<;>rfl
theorem aq3(a b:Nat):sliceRange (a:Int) (b:Int) 1=(List.range (b-a)).map fun k=>a+k:=by
 rcases Nat.lt_or_ge a b with c | c
 ·have up:(a:Int)<b:=by omega
  have many:(((b:Int)-a+1-1) / 1).toNat=b-a:=by rw[Int.ediv_one];omega
  have e:∀k:Nat,((a:Int)+1*(k:Int)).toNat=a+k:=fun k=>by omega
  simp only[sliceRange,gt_iff_lt,Int.one_pos,if_true,up,many,e]
 ·have no:¬((a:Int)<b):=by omega
  have z:b-a=0:=by omega
  simp only[sliceRange,gt_iff_lt,Int.one_pos,if_true,no,if_false,z,List.range_zero,List.map_nil]
  rfl
theorem avT(l:List Nat)(n a:Nat):((List.range n).map fun k=>a+k).filterMap (fun i=>(Tx l).cps[i]?)=(l.drop a).take n:=by
 rw[List.filterMap_map]
 induction n with
 |zero=>rw[List.take_zero];rfl
 |succ n ih=>
  have one:[n].filterMap ((fun i=>(Tx l).cps[i]?) ∘ fun k=>a+k)=(l[a+n]?).toList:=by
   show List.filterMap _ [n]=_
   cases e:l[a+n]? <;>simp[e]
  rw[cC,dH,ih,one,List.take_add_one,List.getElem?_drop]
theorem aDK(l:List Nat)(lo hi:Option Int):(Builtin.Str.strSliceIndices lo hi 1 l.length).filterMap (fun i=>(Tx l).cps[i]?)=afT l lo hi:=by
 rw[axE,aq3,avT]
 rfl
theorem avP(l:List Nat)(lo hi:Option Int)(h:(Builtin.Str.strSliceIndices lo hi 1 l.length).length=l.length):afT l lo hi=l:=by
 rw[axE,aq3,aU,dG] at h
 have h1:=HT.sIx_le l.length l.length (aV _) hi
 have e1:HT.sIx l.length 0 lo=0∨l.length=0:=by omega
 unfold afT
 rcases e1 with e | e
 ·rw[e]
  have:HT.sIx l.length l.length hi=l.length:=by omega
  rw[this]
  simp
 ·have:l=[]:=dI e
  subst this
  simp
theorem agX(l:List Nat)(lo hi:Option Int):(afT l lo hi).length<=l.length:=by
 unfold afT
 rw[cW,List.length_drop]
 omega
section
variable{X:Cx}
noncomputable def rSlX:V->Option Int->Option Int->Hp->VK->Prop:=fun x lo hi H Q=>∃l:List Nat,x=.str (Tx l)/\l.length<=sizeLine/\Q (.str (Tx (afT l lo hi))) H
theorem slX:Sls X rSlX:=by
 refine⟨fun pins s σ H x v vl vu lo hi sl Q I rx hs pl pu h=>?_⟩
 obtain⟨l,rfl,hz,q⟩:=h
 obtain⟨t,rfl⟩:=rx
 refine⟨"str",_,PySem.F.slot_str_getitem.lookup,typeIs_str _ _ _,?_⟩
 obtain⟨o,ho,hc,hd⟩:=hs
 have fin:∀(a b:Option (Int×Tok)),o.data=.fields #[partValue a,partValue b,.none]->a.map (·.1)=lo->b.map (·.1)=hi->wpAny (model X.prog X.w) X.A (getItem (.str (Tx l) t) (.ref sl)) (EP X pins σ Q) X.xe s:=fun a b hd ea eb=>by
  refine wpAny_getItem_str_slice (l:=a) (u:=b) (st:=none) ⟨o,ho,hc,hd⟩ rfl ?_
  have ep:slicePicked (Tx l) a b none=Builtin.Str.strSliceIndices lo hi 1 l.length:=by unfold slicePicked;rw[ea,eb,abP];rfl
  unfold sliceMade
  rw[ep]
  split
  ·next hw=>
   have hw2:(Builtin.Str.strSliceIndices lo hi 1 l.length).length=l.length:=by
    have:=(Bool.and_eq_true_iff.mp hw).2
    rw[abP] at this
    exact beq_iff_eq.mp this
   show EP X pins σ Q _ s
   rw[avP l lo hi hw2] at q
   exact⟨.str (Tx l),H,I,⟨t,rfl⟩,q⟩
  ·rw[aDK]
   exact⟨by rw[abP];exact bT (agX l lo hi) hz,⟨.str (Tx (afT l lo hi)),H,I.tok _,⟨_,rfl⟩,q⟩⟩
 cases pl with
 |none=>
  cases pu with
  |none=>exact fin none none hd rfl rfl
  |int j tj=>exact fin none (some (j,tj)) hd rfl rfl
 |int i ti=>
  cases pu with
  |none=>exact fin (some (i,ti)) none hd rfl rfl
  |int j tj=>exact fin (some (i,ti)) (some (j,tj)) hd rfl rfl
theorem amT(m:Nat):num m≠[]:=fun e=>Nat.toDigits_ne_nil (List.map_eq_nil_iff.mp e)
end
section
variable{prog:Program}{w:World}{A:Around}{E:Value->Shared->Prop}{s:Shared}{I:Addr}{fp wr:List Addr}{G:Array GenState->Array GenState->Prop}{n:Nat}{P:Nat->Value->Prop}{St:Nat->Shared->Prop}
end
section
variable{X:Cx}{o e:Expr}{to te:TE}{p rpos apos cpos:Pos}
end
theorem abS{X:Cx}{e:Expr}{t u:TE}(h:E X e t)(h':E X e u):E X e (fun σ H Q=>t σ H Q∨u σ H Q):=
 ⟨fun pins s σ H Q I z=>z.elim (fun z=>h.h pins s σ H Q I z) fun z=>h'.h pins s σ H Q I z⟩
section
variable{X:Cx}
end
section
variable{κ:Type}[DecidableEq κ]
noncomputable def am6(kvs:List (κ×V))(k:κ):Option V:=(kvs.find? fun kv=>decide (kv.1=k)).map (·.2)
noncomputable def arF(kvs:List (κ×V))(k:κ)(v:V):List (κ×V):=
 if (kvs.any fun kv=>decide (kv.1=k))=true then kvs.map (fun kv=>if kv.1=k then (kv.1,v) else kv) else kvs++[(k,v)]
theorem asH{p:κ×V}{r:List (κ×V)}{k:κ}(e:p.1=k):am6 (p::r) k=some p.2:=by simp[am6,c9,e]
theorem aqT{p:κ×V}{r:List (κ×V)}{k:κ}(e:¬p.1=k):am6 (p::r) k=am6 r k:=by simp[am6,c9,e]
theorem arX(kvs:List (κ×V))(k:κ)(v:V):(arF kvs k v).length<=kvs.length+1:=by
 unfold arF
 split
 ·rw[aU];omega
 ·rw[aW,bJ,List.length_nil];omega
theorem KV.val{kvs:List (κ×V)}{vs:List (κ×Value)}(r:KV kvs vs)(k:κ):RelO (am6 kvs k) (valueAt vs k):=by
 unfold KV at r
 induction r with
 |nil=>exact True.intro
 |@cons p q ps qs h t ih=>
  obtain⟨h1,h2⟩:=h
  by_cases e:p.1=k
  ·have e':q.1=k:=h1.symm.trans e
   have b:valueAt (q::qs) k=some q.2:=by simp[valueAt,c9,e']
   rw[asH e,b];exact h2
  ·have e':¬q.1=k:=fun z=>e (h1.trans z)
   have b:valueAt (q::qs) k=valueAt qs k:=by simp[valueAt,c9,e']
   rw[aqT e,b];exact ih
theorem KV.any{kvs:List (κ×V)}{vs:List (κ×Value)}(r:KV kvs vs)(k:κ):(kvs.any fun kv=>decide (kv.1=k))=vs.any fun kv=>decide (kv.1=k):=by
 unfold KV at r
 induction r with
 |nil=>rfl
 |cons h t ih=>rw[cG,cG,ih,h.1]
theorem KV.repl{kvs:List (κ×V)}{vs:List (κ×Value)}(r:KV kvs vs)(k:κ){y:V}{u:Value}(ry:RelV y u):
  KV (kvs.map fun kv=>if kv.1=k then (kv.1,y) else kv) (vs.map fun kv=>if kv.1=k then (kv.1,u) else kv):=by
 unfold KV at r ⊢
 induction r with
 |nil=>exact .nil
 |@cons p q ps qs h t ih=>
  rw[bI,bI]
  refine .cons ?_ ih
  obtain⟨h1,h2⟩:=h
  by_cases e:p.1=k
  ·rw[if_pos e,if_pos (h1.symm.trans e)];exact⟨h1,ry⟩
  ·rw[if_neg e,if_neg (fun z=>e (h1.trans z))];exact⟨h1,h2⟩
theorem KV.put{kvs:List (κ×V)}{vs:List (κ×Value)}(r:KV kvs vs)(k:κ){y:V}{u:Value}(ry:RelV y u):KV (arF kvs k y) (stored vs k u):=by
 unfold arF stored
 rw[r.any k]
 by_cases e:(vs.any fun kv=>decide (kv.1=k))=true
 ·rw[if_pos e,if_pos e];exact r.repl k ry
 ·rw[if_neg e,if_neg e];exact Paired.snoc r ⟨rfl,ry⟩
end
theorem auK{P:Program}{w:World}{k:Key}{u:Value}(r:RelV (kV k) u):(abB P w).is k u=true:=by
 cases k with
 |inl i=>obtain⟨t,e⟩:=(show ∃t,u=Value.int i t from r);subst e;exact asC P w i t
 |inr x=>obtain⟨t,e⟩:=(show ∃t,u=Value.str x t from r);subst e;exact arB P w x t
theorem adE{P:Program}{w:World}:∀{ks:List Key} {us:List Value},Vals (ks.map kV) us->ItemsAre (abB P w) ks us
 |[],_,r=>by rw[List.map_nil] at r;cases r;exact .nil
 |k::ks,_,r=>by
  rw[bI] at r
  cases r with
  |cons h t=>exact .cons (auK h) (adE t)
noncomputable abbrev KT(H:Hp):List (List Key×V)->List (List Key×Addr×Value)->Prop:=Paired fun p q=>p.1=q.1/\H q.2.1=some (.tup (p.1.map kV))/\RelV p.2 q.2.2
theorem KT.val{H:Hp}{kvs:List (List Key×V)}{xs:List (List Key×Addr×Value)}(r:KT H kvs xs)(k:List Key):RelO (am6 kvs k) ((atKey xs k).map (·.2)):=by
 induction r with
 |nil=>exact True.intro
 |@cons p q ps qs h t ih=>
  obtain⟨h1,_,h2⟩:=h
  by_cases e:p.1=k
  ·have e':q.1=k:=h1.symm.trans e
   have b:atKey (q::qs) k=some q.2:=by simp[atKey,c9,e']
   rw[asH e,b];exact h2
  ·have e':¬q.1=k:=fun z=>e (h1.trans z)
   have b:atKey (q::qs) k=atKey qs k:=by simp[atKey,c9,e']
   rw[aqT e,b];exact ih
section
variable{P:Program}{w:World}{H:Hp}{h:Heap}{a:Addr}
theorem aCU{u:HO}(ok:HOk P w H h)(e:Rd H a u):ObjOk P w H h a u:=e.ok ok
theorem azV{kvs:List (Key×V)}(ok:HOk P w H h)(e:Rd H a (.dK kvs)):kvs.length<=sizeLine/\(a==sysModules)=false/\∃vs,KV kvs vs/\h.DictOf (abB P w) a vs:=
 show ObjOk P w H h a (.dK kvs) from aCU ok e
theorem aOT{kvs:List (Key×V)}(ok:HOk P w H h)(e:H a=some (.dK kvs)):kvs.length<=sizeLine/\(a==sysModules)=false/\∃vs,KV kvs vs/\h.DictOf (abB P w) a vs:=azV ok (.inl e)
theorem azP{ks:List Key}(ok:HOk P w H h)(e:H a=some (.tup (ks.map kV))):(tupleKind (abB P w)).is h ks a:=by
 obtain⟨_,its,r,o,h1,h2,n,h3⟩:=(show ObjOk P w H h a (.tup (ks.map kV)) from ok a _ e)
 exact⟨o,its.toArray,n,h1,h2,h3,by simpa using adE r⟩
theorem aC0{kvs:List (List Key×V)}(ok:HOk P w H h)(e:Rd H a (.dT kvs)):kvs.length<=sizeLine/\(a==sysModules)=false/\
  ∃xs,KT H kvs xs/\h.DictOfH (tupleKind (abB P w)) a xs:=by
 obtain⟨z,y,xs,r,o,es,ep,h1,h2,h3,h4,h5⟩:=(show ObjOk P w H h a (.dT kvs) from aCU ok e)
 refine⟨z,y,xs,r,o,es,ep,h1,h2,h3,h4,fun x hx=>?_,h5⟩
 have all:∀{l:List (List Key×V)} {m:List (List Key×Addr×Value)},KT H l m->∀x∈m,(tupleKind (abB P w)).is h x.1 x.2.1:=by
  intro l m q
  induction q with
  |nil=>intro x hx;exact nomatch hx
  |@cons p q ps qs hq t ih=>
   intro x hx
   rcases aX.mp hx with e | hx
   ·subst e
    exact azP ok (by rw[←hq.1];exact hq.2.1)
   ·exact ih x hx
 exact all r x hx
end
noncomputable def aE9(H:Hp)(a:Addr)(y:V)(r:Option V):Prop:=
 (∃kvs k,Rd H a (.dK kvs)/\y=kV k/\r=am6 kvs k)∨∃kvs k b,Rd H a (.dT kvs)/\y=.ref b/\H b=some (.tup (k.map kV))/\r=am6 kvs k
section
variable{X:Cx}{pins:List (Addr×Obj)}{σ:St}{H:Hp}{s:Shared}{a:Addr}{y v:V}{u r:Value}{o:Option V}{A:Around}{E:Value->Shared->Prop}
theorem Inv.big(I:Inv X pins σ H s):sysModules<s.heap.objs.size:=by
 have h:mainGlobals<s.heap.objs.size:=(I.mod.glob.keeps I.bk).lt
 exact Nat.lt_trans (by decide) h
theorem awN{Q:Value->Shared->Prop}(hu:A.units+1<cLine)(I:Inv X pins σ H s)(g:aE9 H a y (some v))(ry:RelV y u)(h:∀w' s',Inv X pins σ H s'->RelV v w'->Q w' s'):
  wpAny (model X.prog X.w) A (getItem (.ref a) u) Q E s:=by
 rcases g with ⟨kvs,k,e,ey,l⟩ | ⟨kvs,k,b,e,ey,eb,l⟩
 ·subst ey
  obtain⟨z,hd,vs,rel,dd⟩:=azV I.hok e
  obtain⟨w',hw,rw'⟩:=RelO.some_of (v:=v) (o:=valueAt vs k) (by rw[l];exact rel.val k)
  exact wpAny_getItem_of (auK ry) dd.mapOf hw (h w' _ (I.tok _) rw')
 ·subst ey
  cases (show u=Value.ref b from ry)
  obtain⟨z,hd,xs,rel,dd⟩:=aC0 I.hok e
  obtain⟨w',hw,rw'⟩:=RelO.some_of (v:=v) (o:=(atKey xs k).map (·.2)) (by rw[l];exact rel.val k)
  obtain⟨p,hp,hp2⟩:=Option.map_eq_some_iff.mp hw
  refine wpAny_getItem_heap (tupleKind_room_in1 hu) (azP I.hok eb) dd hp ?_
  rw[hp2]
  exact h w' _ (I.tok _) rw'
theorem aAL{h':Heap}{t':Nat}{ob:HO}(I:Inv X pins σ H s)(mu:Mut (H a))(hs:Heap.SameBut a s.heap h')(he:∃q,h'.get? a=some q)(new:ObjOk X.prog X.w (upd H a ob) h' a ob):
  Inv X pins σ (upd H a ob) {s with heap:=h',toks:=t'}:=
 I.write (x:=a) (e:=a) mu (.inl rfl) (fun b q hb z=>(hs.2 b hb).trans z) he new
theorem aD8{P:Program}{w:World}{H':Hp}{h':Heap}{kvs:List (Key×V)}{vs:List (Key×Value)}(z:kvs.length<=sizeLine)(hd:(a==sysModules)=false)(rel:KV kvs vs)(dd:h'.DictOf (abB P w) a vs):
  ObjOk P w H' h' a (.dK kvs):=⟨z,hd,vs,rel,dd⟩
end
section
variable{X:Cx}{pins:List (Addr×Obj)}{σ:St}{H:Hp}{s:Shared}{a:Addr}{kvs:List (Key×V)}{k:Key}{u:Value}{A:Around}{E:Value->Shared->Prop}
end
noncomputable def aA2(i:Expr):Prop:=∀ov iv,subscripted i false ov iv=operate [ov,iv] (getItem ov iv)
theorem auQ{prog:Program}{w:World}{A:Around}{E:Value->Shared->Prop}{s:Shared}{env:Env}{value slice:Expr}{pos:Pos}{T id:String}{Q:Value->Shared->Prop}
  (hl:typeLookup (.type T) "__getitem__"=pure (some (.builtin id))) (hs:aA2 slice)
  (h:wpAny (model prog w) A (eval value env) (fun o s₁=>wpAny (model prog w) A (eval slice env) (fun i s₂=>s₂.TypeIs o T/\wpAny (model prog w) A (getItem o i) Q E s₂) E s₁) E s):
  wpAny (model prog w) A (eval (.Subscript value slice pos) env) Q E s:=by
 refine Subscript_ (dX h (fun o s₁ h₁=>dX h₁ (fun i s₂ h₂=>?_) fun _ _ x=>x) fun _ _ x=>x)
 obtain⟨hT,h₂⟩:=h₂
 unfold subscriptTail
 refine dW ?_
 rw[getitemInPython_of_ne hT.not_modules]
 refine dW (wpAny_specialOf hT hl ?_)
 have fin:wpAny (model prog w) A (subscripted slice false o i) (fun r s₃=>wpAny (model prog w) A (letTemporaryGo value o r >>=fun _=>pure r) Q E s₃) E s₂:=by
  rw[hs o i]
  exact wpAny_operating (dX h₂ (fun r s₃ h₃=>dW (wpAny_letTemporaryGo (eC h₃))) fun _ _ x=>x)
 first
  |exact eC (dW fin)
  |exact dW (eC (dW fin))
  |exact dW fin
theorem aqR{X:Cx}{pins:List (Addr×Obj)}{σ:St}{H:Hp}{s:Shared}{a:Addr}{y:V}{o:Option V}(I:Inv X pins σ H s)(g:aE9 H a y o):s.TypeIs (.ref a) "dict":=by
 rcases g with ⟨kvs,k,e,_,_⟩ | ⟨kvs,k,b,e,_,_,_⟩
 ·obtain⟨_,_,vs,_,dd⟩:=azV I.hok e
  exact dd.typeIs
 ·obtain⟨_,_,xs,_,dd⟩:=aC0 I.hok e
  exact dd.typeIs
noncomputable def aCJ(td ty:TE):TE:=fun σ H Q=>td σ H fun x H1=>ty σ H1 fun y H2=>∃a v,x=.ref a/\aE9 H2 a y (some v)/\Q v H2
section
variable{X:Cx}{o i e value:Expr}{pos pos' tpos:Pos}{td ty tv:TE}
theorem aAN(hu:X.A.units+1<cLine)(ho:PE X o td)(hi:PE X i ty)(hs:aA2 i):PE X (.Subscript o i pos) (aCJ td ty):=by
 intro pins s σ H Q I h
 refine auQ PySem.F.slot_dict_getitem.lookup hs (thn (ho pins s σ H _ I h) fun u s1 ⟨x,H1,I1,rx,q1⟩=>thn (hi pins s1 σ H1 _ I1 q1) fun iv s2 ⟨y,H2,I2,ry,a,v,ex,g,q2⟩=>?_)
 subst ex
 obtain rfl:u=Value.ref a:=rx
 exact⟨aqR I2 g,awN hu I2 g ry fun w' s3 I3 rw'=>⟨v,H2,I3,rw',q2⟩⟩
end
theorem awZ{P:Program}{w:World}{H:Hp}(h:Heap)(hb:sysModules<h.objs.size):ObjOk P w H (h.push {cls:=.type "dict",data:=.dict #[]}) h.objs.size (.dK []):=
 ⟨bM _,beq_eq_false_iff_ne.mpr (Ne.symm (bD hb)),[],.nil,Heap.DictOf.new h⟩
section
variable{X:Cx}{pos:Pos}
end
noncomputable def atX:List (TE×TE)->St->Hp->(List (V×V)->Hp->Prop)->Prop
 |[],_,H,Q=>Q [] H
 |(tk,tv)::r,σ,H,Q=>tk σ H fun x H1=>tv σ H1 fun y H2=>atX r σ H2 fun ps H3=>Q ((x,y)::ps) H3
noncomputable abbrev VV:List (V×V)->List (Value×Value)->Prop:=Paired fun p q=>RelV p.1 q.1/\RelV p.2 q.2
noncomputable def PPs(X:Cx)(pos:Pos)(keys:List (Option Expr))(values:List Expr)(trs:List (TE×TE)):Prop:=
 ∀(pins:List (Addr×Obj)) (s:Shared) (σ:St) (H:Hp) (Q:List (V×V)->Hp->Prop),Inv X pins σ H s->atX trs σ H Q->
  wpAny (model X.prog X.w) X.A (evalPairs (pairTrees keys values X.env pos)) (fun vs s'=>∃ps H',Inv X pins σ H' s'/\VV ps vs/\Q ps H') X.xe s
theorem aA7{X:Cx}{pos:Pos}:PPs X pos [] [] []:=fun pins s σ H Q I h=>pairTrees_nil_walk ⟨[],H,I,.nil,h⟩
theorem azD{X:Cx}{pos:Pos}{k v:Expr}{ks:List (Option Expr)}{vs:List Expr}{tk tv:TE}{trs:List (TE×TE)}(hk:PE X k tk)(hv:PE X v tv)(hr:PPs X pos ks vs trs):
  PPs X pos (some k::ks) (v::vs) ((tk,tv)::trs):=fun pins s σ H Q I h=>
 pairTrees_cons_walk (thn (hk pins s σ H _ I h) fun u s1 ⟨x,H1,I1,rx,q1⟩=>thn (hv pins s1 σ H1 _ I1 q1) fun w2 s2 ⟨y,H2,I2,ry,q2⟩=>
  thn (hr pins s2 σ H2 _ I2 q2) fun ws s3 ⟨ps,H3,I3,rel,q3⟩=>⟨(x,y)::ps,H3,I3,.cons ⟨rx,ry⟩ rel,q3⟩)
noncomputable def agJ(kvs more:List (Key×V)):List (Key×V):=more.foldl (fun acc kv=>arF acc kv.1 kv.2) kvs
theorem KV.merge:∀{more:List (Key×V)} {rs:List (Key×Value)} {kvs:List (Key×V)} {vs:List (Key×Value)},KV more rs->KV kvs vs->KV (agJ kvs more) (merged vs rs):=by
 intro more rs kvs vs r
 unfold KV at r
 induction r generalizing kvs vs with
 |nil=>intro q;exact q
 |@cons p q ps qs h t ih=>
  intro r0
  have e:KV (arF kvs p.1 p.2) (stored vs q.1 q.2):=by
   have:=r0.put p.1 h.2
   rw[←h.1];exact this
  exact ih e
theorem afZ:∀(more kvs:List (Key×V)),(agJ kvs more).length<=kvs.length+more.length
 |[],kvs=>by show kvs.length<=kvs.length+0;omega
 |p::r,kvs=>by
  have h1:=afZ r (arF kvs p.1 p.2)
  have h2:=arX kvs p.1 p.2
  show (agJ (arF kvs p.1 p.2) r).length<=_
  rw[bJ];omega
theorem al4{P:Program}{w:World}:∀{kvs:List (Key×V)} {ws:List (Value×Value)},VV (kvs.map fun kv=>(kV kv.1,kv.2)) ws->∃rs,Carries (abB P w) ws rs/\KV kvs rs
 |[],_,r=>by rw[List.map_nil] at r;cases r;exact⟨[],True.intro,.nil⟩
 |p::kvs,_,r=>by
  rw[bI] at r
  cases r with
  |@cons a b as bs h t=>
   obtain⟨rs,c,q⟩:=al4 (P:=P) (w:=w) t
   obtain⟨b1,b2⟩:=b
   exact⟨(p.1,b2)::rs,⟨auK h.1,rfl,c⟩,.cons ⟨rfl,h.2⟩ q⟩
noncomputable def aCN(trs:List (TE×TE)):TE:=fun σ H Q=>∀p,H p=none->atX trs σ (upd H p (.dK [])) fun ps H2=>H2 p=some (.dK [])/\∃kvs:List (Key×V),ps=kvs.map (fun kv=>(kV kv.1,kv.2))/\kvs.length<=15/\Q (.ref p) (upd H2 p (.dK (agJ [] kvs)))
theorem aAY{X:Cx}{pos:Pos}{keys:List (Option Expr)}{values:List Expr}{trs:List (TE×TE)}(h:PPs X pos keys values trs)(hall:keys.all (·.isSome)=true)(hl:keys.length=values.length)(h0:keys≠[])
  (h15:keys.length<=15):PE X (.Dict keys values pos) (aCN trs):=by
 intro pins s σ H Q I q
 have hn:=I.hok.fresh (aV s.heap.objs.size)
 have I1:=I.laid (a:=s.heap.objs.size) (o:=.dK []) (h':=s.heap.push {cls:=.type "dict",data:=.dict #[]}) (t':=s.toks) (fun _ _ q=>bB _ q) (aV _) (awZ s.heap I.big)
 refine wpAny_Dict_walk (knd:=abB X.prog X.w) hall hl h0 h15 (thn (h pins _ σ _ _ I1 (q _ hn)) fun ws s2 ⟨ps,H2,I2,rel,e,kvs,ep,lk,q2⟩=>?_)
 subst ep
 obtain⟨rs,c,rk⟩:=al4 (P:=X.prog) (w:=X.w) rel
 obtain⟨z,hd,vs0,r0,dd⟩:=aOT I2.hok e
 cases r0
 refine⟨rs,c,dd,fun h' dd' hs=>⟨.ref s.heap.objs.size,_,?_,rfl,q2⟩⟩
 have hz:(agJ [] kvs).length<=sizeLine:=by
  have h1:=afZ kvs []
  rw[List.length_nil] at h1
  rw[dY];omega
 have he:∃q,h'.get? s.heap.objs.size=some q:=let ⟨q,_,_,hq,_⟩:=dd';⟨q,hq⟩
 exact aAL I2 (by rw[e];exact True.intro) hs he (aD8 hz hd (rk.merge .nil) dd')
section
variable{X:Cx}{pins:List (Addr×Obj)}{σ:St}{H:Hp}{s:Shared}{a:Addr}{y d:V}{u r:Value}{o:Option V}{A:Around}{E:Value->Shared->Prop}
end
section
variable{X:Cx}{o e f:Expr}{apos cpos:Pos}{td ty tx:TE}
end
section
variable{X:Cx}{pins:List (Addr×Obj)}{σ:St}{H:Hp}{s:Shared}{a:Addr}{kvs:List (Key×V)}{A:Around}{E:Value->Shared->Prop}
end
section
variable{X:Cx}{pins:List (Addr×Obj)}{σ:St}{H:Hp}{s:Shared}{a:Addr}{y:V}{u:Value}{A:Around}{E:Value->Shared->Prop}
end
structure Prs(X:Cx)(pos:Pos)(keys:List (Option Expr))(values:List Expr)(trs:List (TE×TE)):Prop where
 h:PPs X pos keys values trs
section
variable{X:Cx}{k:Nat}{o i kx vx:Expr}{td ty tk tv:TE}{pos:Pos}{keys:List (Option Expr)}{values:List Expr}{trs:List (TE×TE)}
theorem asW{A:Around}(hr:Room k A):A.units+1<cLine:=by have:=hr.un;omega
theorem eDg(hr:Room k X.A)(ho:E X o td)(hi:E X i ty)(hs:aA2 i:=by intro _ _;rfl):E X (.Subscript o i pos) (aCJ td ty):=⟨aAN (asW hr) ho.h hi.h hs⟩
theorem prN:Prs X pos [] [] []:=⟨aA7⟩
theorem prC(hk:E X kx tk)(hv:E X vx tv)(hr:Prs X pos keys values trs):Prs X pos (some kx::keys) (vx::values) ((tk,tv)::trs):=⟨azD hk.h hv.h hr.h⟩
theorem aHQ(h:Prs X pos keys values trs)(ha:keys.all (·.isSome)=true:=by rfl)(hl:keys.length=values.length:=by rfl)(h0:keys≠[]:=by exact fun z=>nomatch z)(h15:keys.length<=15:=by decide):E X (.Dict keys values pos) (aCN trs):=⟨aAY h.h ha hl h0 h15⟩
theorem aCL:Op2 X (binaryOp .Mult) aM5:=⟨aFD⟩
end
section
variable{prog:Program}{w:World}{A:Around}{E:Value->Shared->Prop}{s:Shared}{a:Addr}{es:Array (Int×Value)}{ep:Nat}{t:SetTable}{z:Int}{tk:Tok}
end
section
variable{prog:Program}{w:World}{A:Around}{R:Result->Shared->Prop}{I:Addr}{fp wr:List Addr}{G:Array GenState->Array GenState->Prop}{n:Nat}{P:Nat->Value->Prop}{St:Nat->Shared->Prop}
end
section
variable{prog:Program}{w:World}{A:Around}{E:Value->Shared->Prop}{s:Shared}
end
section
variable{M:Model}{A:Around}{E:Value->Shared->Prop}{s:Shared}
end
section
variable{prog:Program}{w:World}{A:Around}{E:Value->Shared->Prop}{s:Shared}{a I:Addr}{es:Array (Int×Value)}{ep:Nat}{t:SetTable}
end
section
variable{prog:Program}{w:World}{A:Around}{E:Value->Shared->Prop}{s:Shared}{a I:Addr}{es:Array (Int×Value)}{ep:Nat}{t:SetTable}
end
section
variable{X:Cx}
end
section
variable{X:Cx}
end
section
variable{js:List Nat}{σ:St}{tt:TT}{te:TE}{Q:VK}{H1:Hp}
end
theorem ifX{a b:List Nat}{A B:Prop}(h1:a=b->A)(h2:¬a=b->B):if decide (V.str (Tx a)=V.str (Tx b))=true then A else B:=by
 rw[aw8]
 exact ifD h1 h2
theorem anH{a:List Nat}{A B:Prop}(h:A):if decide (V.str (Tx a)=V.str (Tx a))=true then A else B:=ifX (fun _=>h) fun c=>absurd rfl c
theorem afV{a b:List Nat}{A B:Prop}(c:¬a=b)(h:B):if decide (V.str (Tx a)=V.str (Tx b))=true then A else B:=ifX (fun e=>absurd e c) fun _=>h
end L2
namespace KM
open PySem PySem.Spec PyProof.Rows L2
inductive Mk where
 |num (m:Int) | lst (b:Int) | nea (d:Int) | wrk | wkd (m:Int) | nth (w m:Int) | one (w:Int) | nil
 deriving DecidableEq
noncomputable def Lf(l f:Int):Prop:=(28<=l/\l<=31)/\0<=f/\f<=6
noncomputable def aqK(ds:List Int):Int:=(ds.map fun d=>1*2^d.toNat).sum
noncomputable def asc:List Int->Bool
 |[]=>true
 |[_]=>true
 |x::y::r=>decide (x<y)&&asc (y::r)
noncomputable def okA(ds:List Int):Bool:=decide (ds.length<=31)&&(asc ds&&ds.all fun d=>decide (0<=d)&&decide (d<=31))
theorem auS(ds:List Int):0<=aqK ds:=by
 unfold aqK
 induction ds with
 |nil=>exact a8 0
 |cons d ds ih=>
  have:=acL d.toNat
  rw[bI,List.sum_cons]
  omega
noncomputable def ax7(m l:Int):Int:=Builtin.bitAnd m (2*2^l.toNat-2)
noncomputable def arE(b l:Int):Int:=if l<=b then 0 else 1*2^(l-b).toNat
noncomputable def apL(m:Int)(n:Nat):Bool:=decide (Builtin.bitAnd (m / 2^(1+(n:Int)).toNat) 1=1)
noncomputable def ahZ(m:Int):Nat->List Int
 |0=>[]
 |n+1=>ahZ m n++(if apL m n=true then [1+(n:Int)] else [])
noncomputable def nw(d l f:Int):Int:=if (f+d-1)%7=6 then (if 1<d then d-1 else 3) else if (f+d-1)%7=0 then (if d<l then d+1 else l-2) else d
noncomputable def asD(d l f:Int):Int:=if l<d then 0 else 1*2^(nw d l f).toNat
noncomputable def wk(f:Int)(n:Nat):Bool:=decide (1<=(f+(1+(n:Int))-1)%7)&&decide ((f+(1+(n:Int))-1)%7<=5)
noncomputable def azA(f:Int):Nat->List Int
 |0=>[]
 |n+1=>azA f n++(if wk f n=true then [1+(n:Int)] else [])
noncomputable def ab(i:Int):Int:=if i<0 then -i else i
noncomputable def stp(d acc o:Int):Int:=if acc=0 then o else if ab (o-d)<ab (acc-d) then o else acc
noncomputable def agV(w m f:Int):Int:=1+(w-f)%7+7*(m-1)
noncomputable def apW(w m l f:Int):Int:=if l<agV w m f then 0 else 1*2^(agV w m f).toNat
noncomputable def akT(w l f:Int):Int:=l-((f+l-1)%7-w)%7
noncomputable def aCR(w l f:Int):Int:=1*2^(akT w l f).toNat
noncomputable def wks(m:Int):Nat->Int
 |0=>0
 |n+1=>Builtin.bitOr (wks m n) (m*2^(7*(0+(n:Int))).toNat)
noncomputable def wkD(m l f:Int):Int:=Builtin.bitAnd (wks m 6 / 2^f.toNat*2^(1:Int).toNat) (2*2^l.toNat-2)
noncomputable def onD(f w:Int)(n:Nat):Bool:=decide ((f+(1+(n:Int))-1)%7=w)
noncomputable def onN(f w:Int):Nat->List Int
 |0=>[]
 |n+1=>onN f w n++(if onD f w n=true then [1+(n:Int)] else [])
noncomputable def hasW(m f:Int)(n:Nat):Bool:=decide (Builtin.bitAnd (m / 2^((f+(1+(n:Int))-1)%7).toNat) 1=1)
noncomputable def wkN(m f:Int):Nat->List Int
 |0=>[]
 |n+1=>wkN m f n++(if hasW m f n=true then [1+(n:Int)] else [])
noncomputable def asV:List Int:=[1,2,3,4,5,6,7,8,9,10,11,12,13,14,15,16,17,18,19,20,21,22,23,24,25,26,27,28,29,30,31]
noncomputable def ls4:List Int:=[28,29,30,31]
noncomputable def fs7:List Int:=[0,1,2,3,4,5,6]
noncomputable def ms5:List Int:=[1,2,3,4,5]
noncomputable def avN:List Int:=(List.range 128).map fun n:Nat=>(n:Int)
theorem ax6:∀l∈ls4,∀f∈fs7,∀d∈asV,d<=l->(azA f l.toNat).foldl (stp d) 0=nw d l f/\1<=nw d l f/\nw d l f<=31:=by decide +kernel
theorem aAP:∀l∈ls4,∀f∈fs7,∀w∈fs7,∀m∈ms5,apW w m l f=aqK (aKS (onN f w l.toNat) (some (m-1)) (some m))/\okA (aKS (onN f w l.toNat) (some (m-1)) (some m))=true/\0<=agV w m f/\agV w m f<=100:=by decide +kernel
theorem aAO:∀l∈ls4,∀f∈fs7,∀w∈fs7,atI ((onN f w l.toNat).map V.int) (-1)=some (V.int (akT w l f))/\0<=akT w l f/\akT w l f<=31:=by decide +kernel
theorem aDO:∀m∈avN,∀l∈ls4,∀f∈fs7,wkD m l f=aqK (wkN m f l.toNat)/\okA (wkN m f l.toNat)=true:=by decide +kernel
theorem aAU:∀m∈avN,(∀n:Nat,n<7->(wks m n).natAbs<2^60)/\∀f∈fs7,(wks m 6 / 2^f.toNat).natAbs<2^64:=by decide +kernel
theorem aA3{l:Int}(h0:28<=l)(h1:l<=31):l∈ls4:=by
 have:l=28∨l=29∨l=30∨l=31:=by omega
 rcases this with rfl | rfl | rfl | rfl<;>decide
theorem at3{f:Int}(h0:0<=f)(h1:f<=6):f∈fs7:=by
 have:f=0∨f=1∨f=2∨f=3∨f=4∨f=5∨f=6:=by omega
 rcases this with rfl | rfl | rfl | rfl | rfl | rfl | rfl<;>decide
theorem in_m{m:Int}(h0:1<=m)(h1:m<=5):m∈ms5:=by
 have:m=1∨m=2∨m=3∨m=4∨m=5:=by omega
 rcases this with rfl | rfl | rfl | rfl | rfl<;>decide
theorem aHH{m:Int}(h0:0<=m)(h1:m<=127):m∈avN:=by
 unfold avN
 exact bR.mpr ⟨m.toNat,b6.mpr (by omega),by omega⟩
theorem in_d{d:Int}(h0:1<=d)(h1:d<=31):d∈asV:=by
 have e:d=1+((d-1).toNat:Int):=by omega
 have hn:(d-1).toNat<31:=by omega
 rw[e]
 generalize (d-1).toNat=n at hn
 have all:∀n:Nat,n<31->(1+(n:Int))∈asV:=by decide +kernel
 exact all n hn
noncomputable def Ok3(d l f:Int):Prop:=(1<=d/\d<=31)/\(28<=l/\l<=31)/\0<=f/\f<=6
theorem auD{d l f:Int}(h:Ok3 d l f)(hd:d<=l):(azA f l.toNat).foldl (stp d) 0=nw d l f/\1<=nw d l f/\nw d l f<=31:=ax6 l (aA3 h.2.1.1 h.2.1.2) f (at3 h.2.2.1 h.2.2.2) d (in_d h.1.1 h.1.2) hd
theorem Lf.last{l f:Int}(h:Lf l f):Ok3 l l f:=⟨⟨by have:=h.1.1;omega,h.1.2⟩,h.1,h.2⟩
theorem aBM{m:Int}(h:0<=m)(n:Nat):apL m n=tb m (n+1):=by
 have e:(1+(n:Int)).toNat=n+1:=by omega
 unfold apL
 rw[e]
 by_cases c:tb m (n+1)=true
 ·rw[c];exact d6 ((adQ h _).mpr c)
 ·have c':tb m (n+1)=false:=by simpa using c
  rw[c'];exact d8 fun q=>c ((adQ h _).mp q)
noncomputable def aw3(m:Int)(i:Nat):Bool:=decide (1<=i)&&tb m i
theorem arW{m:Int}(h:0<=m):∀n:Nat,aqK (ahZ m n)=mk_ (aw3 m) (n+1)
 |0=>by
  have e:aw3 m 0=false:=rfl
  rw[au0,azZ,e]
  rfl
 |n+1=>by
  have ih:=arW h n
  rw[au0,←ih]
  show aqK (ahZ m n++(if apL m n=true then [1+(n:Int)] else []))=_
  have e:aw3 m (n+1)=apL m n:=by rw[aBM h];unfold aw3;simp
  have e1:(1+(n:Int)).toNat=n+1:=by omega
  rw[e]
  unfold aqK
  rw[aZ,List.sum_append]
  by_cases c:apL m n=true
  ·rw[if_pos c,if_pos c]
   show _+(1*2^(1+(n:Int)).toNat+0)=_
   rw[e1]
   omega
  ·rw[if_neg c,if_neg c]
   rfl
theorem avK(m:Int):∀n:Nat,(ahZ m n).length<=n/\(ahZ m n).Pairwise (·<·)/\∀d∈ahZ m n,0<=d/\d<=n
 |0=>⟨aV _,.nil,fun d hd=>nomatch hd⟩
 |n+1=>by
  obtain⟨h1,hp,h2⟩:=avK m n
  show (ahZ m n++(if apL m n=true then [1+(n:Int)] else [])).length<=n+1/\(ahZ m n++(if apL m n=true then [1+(n:Int)] else [])).Pairwise (·<·)/\∀d∈ahZ m n++(if apL m n=true then [1+(n:Int)] else []),_
  split
  ·refine⟨by simp;omega,List.pairwise_append.mpr ⟨hp,.cons (fun _ h=>nomatch h) .nil,fun a ha b hb=>?_⟩,fun d hd=>?_⟩
   ·have:b=1+(n:Int):=by simpa using hb
    have:=h2 a ha
    omega
   ·rcases bZ.mp hd with z | z
    ·have:=h2 d z;omega
    ·have:d=1+(n:Int):=by simpa using z
     omega
  ·rw[cS]
   refine⟨by omega,hp,fun d hd=>?_⟩
   have:=h2 d hd;omega
theorem aEC{m l:Int}(h:0<=m)(hl:28<=l/\l<=31):ax7 m l=aqK (ahZ m l.toNat)/\(ahZ m l.toNat).length<=31/\(ahZ m l.toNat).Pairwise (·<·)/\∀d∈ahZ m l.toNat,0<=d/\d<=31:=by
 obtain⟨k1,kp,k2⟩:=avK m l.toNat
 have hp:=acL l.toNat
 refine⟨?_,by omega,kp,fun d hd=>by have:=k2 d hd;omega⟩
 rw[arW h]
 have e:(2*2^l.toNat-2:Int)=(2^l.toNat-1)*2^1:=by omega
 have n0:(0:Int)<=2^l.toNat-1:=by omega
 have n1:(0:Int)<=(2^l.toNat-1)*2^1:=by omega
 unfold ax7
 rw[e]
 refine abZ (agU h n1) (avC _ _) fun i=>?_
 rw[adA h n1,aFA n0,ap1,au5]
 unfold aw3
 by_cases c1:1<=i
 ·have:(i-1<l.toNat)↔(i<l.toNat+1):=by omega
  simp only[c1,this,decide_true,Bool.true_and]
  rw[Bool.and_comm]
 ·simp[c1]
theorem rng{l:Int}(hl:28<=l/\l<=31):(-(2^62)<=(1:Int)/\(1:Int)<2^62/\ -(2^62)<=l+1/\l+1<2^62)/\(l+1-1).toNat=l.toNat/\(l+1-1).toNat<=sizeLine:=by
 obtain⟨h0,h1⟩:=hl
 refine⟨⟨by decide,by decide,by omega,by omega⟩,by omega,?_⟩
 rw[dY]
 omega
noncomputable def apD(w m:Int):List (Str×V):=aaY "many" (.int m) (aaY "weekday" (.int w) [])
theorem ne1:¬(("weekday":Str)="many"):=by decide +kernel
theorem aFI(w m:Int):(apD w m).lookup ("weekday":Str)=some (.int w):=by
 unfold apD
 rw[aaD,if_neg ne1,aaD,if_pos rfl]
theorem aDF(w m:Int):(apD w m).lookup ("many":Str)=some (.int m):=by
 unfold apD
 rw[aaD,if_pos rfl]
theorem aBW(w m:Int):(apD w m).lookup ("days":Str)=none:=by
 unfold apD
 rw[aaD,if_neg (by decide +kernel),aaD,if_neg (by decide +kernel)]
 rfl
noncomputable def Mk.due:Mk->Int->Int->Int
 |.num m,l,_=>ax7 m l
 |.lst b,l,_=>arE b l
 |.nea d,l,f=>asD d l f
 |.wrk,l,f=>1*2^(nw l l f).toNat
 |.wkd m,l,f=>wkD m l f
 |.nth w m,l,f=>apW w m l f
 |.one w,l,f=>aCR w l f
 |.nil,_,_=>0
noncomputable def Mk.ok:Mk->Prop
 |.num m=>0<=m
 |.lst b=>0<=b/\b<=30
 |.nea d=>1<=d/\d<=31
 |.wrk=>True
 |.wkd m=>0<=m/\m<=127
 |.nth w m=>(0<=w/\w<=6)/\1<=m/\m<=5
 |.one w=>0<=w/\w<=6
 |.nil=>True
noncomputable def Mk.wk:Mk->Bool
 |.wkd _ | .nth _ _ | .one _=>true
 |_=>false
noncomputable def Mk.sp:Mk->Bool
 |.nil=>false
 |_=>true
theorem aFB{k:Mk}{l f:Int}(hk:k.ok)(h:Lf l f):0<=k.due l f:=by
 have p1:∀n:Nat,(0:Int)<=1*2^n:=fun n=>by have:=acL n;omega
 cases k with
 |num m=>show 0<=ax7 m l;rw[(aEC hk h.1).1];exact auS _
 |lst b=>show 0<=arE b l;unfold arE;split;exact a8 0;exact p1 _
 |nea d=>show 0<=asD d l f;unfold asD;split;exact a8 0;exact p1 _
 |wrk=>exact p1 _
 |wkd m=>show 0<=wkD m l f;rw[(aDO m (aHH hk.1 hk.2) l (aA3 h.1.1 h.1.2) f (at3 h.2.1 h.2.2)).1];exact auS _
 |nth w m=>show 0<=apW w m l f;unfold apW;split;exact a8 0;exact p1 _
 |one w=>exact p1 _
 |nil=>exact a8 0
noncomputable def orK(ks:List Mk)(l f:Int):Int:=orM (ks.map fun k=>k.due l f)
theorem awW(ks:List Mk)(k:Mk)(l f:Int):orK (ks++[k]) l f=Builtin.bitOr (orK ks l f) (k.due l f):=by unfold orK;rw[aZ];exact alY _ _
structure Cs where
 (nu la ne lw we nt lo ma:Addr)
noncomputable def MkAt(c:Cs)(H:Hp)(x:Addr):Mk->Prop
 |.num m=>∃dx,H x=some (.ins c.nu dx [("mask",.int m)])
 |.lst b=>∃dx,H x=some (.ins c.la dx [("back",.int b)])
 |.nea d=>∃dx,H x=some (.ins c.ne dx [("day",.int d)])
 |.wrk=>∃dx,H x=some (.ins c.lw dx [])
 |.wkd m=>∃dx,H x=some (.ins c.we dx [("mask",.int m)])
 |.nth w m=>∃dx,H x=some (.ins c.nt dx (apD w m))
 |.one w=>∃dx,H x=some (.ins c.lo dx [("weekday",.int w)])
 |.nil=>∃dx,H x=some (.ins c.ma dx [])
theorem MkAt.keep{c:Cs}{H H':Hp}(s:Keep H H'){x:Addr}{k:Mk}(h:MkAt c H x k):MkAt c H' x k:=by
 cases k<;>(obtain⟨dx,h⟩:=h;exact⟨dx,s.ins h⟩)
noncomputable abbrev Ft(R:Addr->Mk->Prop):List Addr->List Mk->Prop:=Paired R
theorem Ft.get{R:Addr->Mk->Prop}:∀{ps:List Addr} {ks:List Mk},Ft R ps ks->∀{i:Nat} {p:Addr},ps[i]? =some p->∃k,ks[i]? =some k/\R p k
 |_,_,.nil,_,_,h=>nomatch h
 |_,_,.cons r _,0,_,h=>by cases h;exact⟨_,rfl,r⟩
 |_,_,.cons _ t,i+1,_,h=>Ft.get t h
theorem Ft.keepM{c:Cs}{H H':Hp}(s:Keep H H'){ps:List Addr}{ks:List Mk}(h:Ft (MkAt c H) ps ks):Ft (MkAt c H') ps ks:=Paired.imp' (fun _ _ z=>z.keep s) h
theorem Ft.app{R:Addr->Mk->Prop}:∀{ps:List Addr} {ks:List Mk} {ps':List Addr} {ks':List Mk},Ft R ps ks->Ft R ps' ks'->Ft R (ps++ps') (ks++ks')
 |_,_,_,_,.nil,h=>h
 |_,_,_,_,.cons r t,h=>.cons r (Ft.app t h)
end KM
namespace L2
open PySem
theorem aF5{us:List Value}(h:us.length=1):∃a,us=[a]:=by
 cases us with
 |nil=>cases h
 |cons a r=>cases r with
  |nil=>exact⟨a,rfl⟩
  |cons b r=>cases h
theorem aFL{us:List Value}{n:Nat}(h:us.length=n+1):∃a r,us=a::r/\r.length=n:=by
 cases us with
 |nil=>cases h
 |cons a r=>exact⟨a,r,rfl,bU h⟩
theorem aGZ{us:List Value}(h:us.length=2):∃a b,us=[a,b]:=by
 obtain⟨a,r,rfl,h'⟩:=aFL h
 obtain⟨b,rfl⟩:=aF5 h'
 exact⟨a,b,rfl⟩
theorem aN2{us:List Value}(h:us.length=3):∃a b c,us=[a,b,c]:=by
 obtain⟨a,r,rfl,h'⟩:=aFL h
 obtain⟨b,c,rfl⟩:=aGZ h'
 exact⟨a,b,c,rfl⟩
theorem len4{us:List Value}(h:us.length=4):∃a b c d,us=[a,b,c,d]:=by
 obtain⟨a,r,rfl,h'⟩:=aFL h
 obtain⟨b,c,d,rfl⟩:=aN2 h'
 exact⟨a,b,c,d,rfl⟩
structure DfA(P:Program)(w:World)(K:FG)(mg:Str->Option Value)(base:Heap)(f:Addr)(k:Nat)(ps:List Str)(sp:Sp):Prop where
 ex:∃fd:FuncData,FnOk P w K mg base CX0 k f fd ps sp/\Binds K fd ps []/\PySem.W.keepIn K (.ref f)=true
theorem Df.at_{P:Program}{w:World}{K:FG}{mg:Str->Option Value}{base:Heap}{x:Str}{k:Nat}{ps:List Str}{sp:Sp}{f:Addr}(D:Df P w K mg base x k ps sp)(hm:mg x=some (.ref f)):DfA P w K mg base f k ps sp:=by
 obtain⟨f',fd,F,hb,hm',kp⟩:=D.ex
 rw[hm] at hm'
 cases hm'
 exact⟨fd,F,hb,kp⟩
noncomputable def aC8(f:Addr)(sp:Sp)(tv:TE)(t:TA):TE:=fun σ H Q=>tv σ H fun v H1=>v=.ref f/\ai2 sp [] E0 t σ H1 Q
section
variable{X:Cx}{f:Addr}{k k':Nat}{ps:List Str}{sp:Sp}{y:Str}{e:Expr}{es:List Expr}{t:TA}{tv:TE}{p pos:Pos}
theorem eDV(D:DfA X.prog X.w X.K X.mg X.base f k ps sp)(hr:Room k' X.A)(hv:E X (.Name y p) tv)(ha:As X (e::es) t)(hk:k<=k':=by decide)
  (he:starEach (e::es) X.env=(false,eval e X.env)::starEach es X.env:=by rfl) (hpl:(backTo pos (starEach es X.env)).any (·.1)=false:=by rfl):E X (.Call (.Name y p) (e::es) [] pos) (aC8 f sp tv t):=by
 obtain⟨fd,F,hb,kp⟩:=D.ex
 refine⟨fun pins s σ H Q I h=>?_⟩
 refine d9 (thn (hv.h pins s σ H _ I h) fun v s1 ⟨x,H1,I1,r1,ex,q⟩=>?_)
 subst ex
 cases r1
 refine PySem.W.callWith_K (h₀:=X.base) I1.ok.mod.kin kp (thn (ha.h pos pins s1 σ H1 _ I1 q) fun us s2 ⟨vs,H2,I2,r,q2⟩=>⟨I2.kIn,?_⟩) he hpl
 exact alJ F (hr.mono hk) hb .nil alM I2 r q2
end
section
variable{X:Cx}
noncomputable def aN3:V->List V->Hp->VK->Prop:=fun x vs H Q=>∃l p:List Nat,x=.str (Tx l)/\vs=[.str (Tx p)]/\Q (.bl (decide (l.take p.length=p))) H
theorem aFF(l p:List Nat):(decide (0+(Tx p).length<=(Tx l).length)&&Builtin.Str.subAt (Tx l) (Tx p) 0)=decide (l.take p.length=p):=by
 rw[abP,abP]
 have e:(Tx l).cps.extract 0 (0+(Tx p).length)=(l.take p.length).toArray:=by
  rw[abP]
  show l.toArray.extract 0 (0+p.length)=_
  simp
 have e2:(((l.take p.length).toArray==p.toArray:Bool))=decide (l.take p.length=p):=by
  by_cases h:l.take p.length=p
  ·rw[h];simp
  ·rw[d8 h]
   exact beq_eq_false_iff_ne.mpr fun z=>h (by simpa using congrArg Array.toList z)
 unfold Builtin.Str.subAt
 rw[e]
 show (_&&((l.take p.length).toArray==p.toArray))=_
 rw[e2]
 by_cases h:l.take p.length=p
 ·have:0+p.length<=l.length:=by
   have:=congrArg List.length h
   rw[cW] at this
   omega
  rw[d6 this,Bool.true_and]
 ·rw[d8 h,Bool.and_false]
theorem aE6:MtR X "str.startswith" aN3:=by
 intro pins s σ H x xs v us Q I rx rv h
 obtain⟨l,p,rfl,rfl,q⟩:=h
 obtain⟨u,rfl,r1⟩:=acK rv
 obtain⟨t',rfl⟩:=r1
 obtain⟨t,rfl⟩:=rx
 refine call_gives PySem.F.slot_str_startswith (typeIs_str _ _ _) PySem.F.entry_str_startswith (PySem.F.args_str_startswith_2 _ _) (gives_str_startswith (Tx l) (Tx p) t t') ?_
 rw[aFF]
 exact⟨.bl _,H,I,rfl,q⟩
theorem eSwN{o e:Expr}{to te:TE}{apos cpos:Pos}(ho:E X o to)(he:E X e te)(hbase:attributeBase o "startswith" X.env (eval o X.env)=eval o X.env:=by rfl)
  (hfew:((backTo cpos (starEach [e] X.env)).all (fun x=> !x.1)&&(backToKw cpos (keywordEach [] X.env)).all (fun x=>x.1.isSome)&&decide (([e]:List Expr).length+([]:List Keyword).length+(if ([]:List Keyword).isEmpty then 0 else 1)<30))=true:=by rfl)
  (hline:(apos.endLine==cpos.line)=true:=by rfl) (hs:starEach [e] X.env=(false,eval e X.env)::starEach [] X.env:=by rfl) (hplain:(backTo cpos (starEach [] X.env)).any (·.1)=false:=by rfl):
  E X (.Call (.Attribute o "startswith" apos) [e] [] cpos) (tBM X.K "str" aN3 to (ac0 te adJ)):=
 ⟨aqX PySem.F.plainAttrs_str PySem.F.slot_str_startswith PySem.F.type_str_startswith aE6 ho.h (acB he.h ac7 hs) hbase hfew hline hs hplain⟩
noncomputable def rEw:V->List V->Hp->VK->Prop:=fun x vs H Q=>∃(l:List Nat) (c:Nat),x=.str (Tx l)/\vs=[.str (Tx [c])]/\Q (.bl (decide (l.getLast? =some c))) H
theorem aN6(l:List Nat)(c:Nat):(decide (0+(Tx [c]).length<=(Tx l).length)&&Builtin.Str.subAt (Tx l) (Tx [c]) ((Tx l).length-(Tx [c]).length))=decide (l.getLast? =some c):=by
 rw[abP,abP]
 rcases List.eq_nil_or_concat l with rfl | ⟨r,x,rfl⟩
 ·simp
 ·rw[List.concat_eq_append]
  have e:(Tx (r++[x])).cps.extract ((r++[x]).length - [c].length) ((r++[x]).length - [c].length+(Tx [c]).length)= #[x]:=by
   show (r++[x]).toArray.extract ((r++[x]).length-1) ((r++[x]).length-1+1)= #[x]
   rw[aW,b8,Nat.add_sub_cancel]
   simp
  unfold Builtin.Str.subAt
  rw[e]
  have e2:decide (0+[c].length<=(r++[x]).length)=true:=by simp
  rw[e2,Bool.true_and,List.getLast?_append,List.getLast?_singleton]
  show (#[x]== #[c])=decide (some x=some c)
  by_cases h:x=c
  ·subst h;simp
  ·have h2:¬some x=some c:=fun z=>h (bA z)
   rw[d8 h2]
   exact beq_eq_false_iff_ne.mpr fun z=>h (by simpa using z)
theorem aHL:MtR X "str.endswith" rEw:=by
 intro pins s σ H x xs v us Q I rx rv h
 obtain⟨l,c,rfl,rfl,q⟩:=h
 obtain⟨u,rfl,r1⟩:=acK rv
 obtain⟨t',rfl⟩:=r1
 obtain⟨t,rfl⟩:=rx
 refine call_gives PySem.F.slot_str_endswith (typeIs_str _ _ _) PySem.F.entry_str_endswith (PySem.F.args_str_endswith_2 _ _) (gives_str_endswith (Tx l) (Tx [c]) t t') ?_
 rw[aN6]
 exact⟨.bl _,H,I,rfl,q⟩
theorem eEw{o e:Expr}{to te:TE}{apos cpos:Pos}(ho:E X o to)(he:E X e te)(hbase:attributeBase o "endswith" X.env (eval o X.env)=eval o X.env:=by rfl)
  (hfew:((backTo cpos (starEach [e] X.env)).all (fun x=> !x.1)&&(backToKw cpos (keywordEach [] X.env)).all (fun x=>x.1.isSome)&&decide (([e]:List Expr).length+([]:List Keyword).length+(if ([]:List Keyword).isEmpty then 0 else 1)<30))=true:=by rfl)
  (hline:(apos.endLine==cpos.line)=true:=by rfl) (hs:starEach [e] X.env=(false,eval e X.env)::starEach [] X.env:=by rfl) (hplain:(backTo cpos (starEach [] X.env)).any (·.1)=false:=by rfl):
  E X (.Call (.Attribute o "endswith" apos) [e] [] cpos) (tBM X.K "str" rEw to (ac0 te adJ)):=
 ⟨aqX PySem.F.plainAttrs_str PySem.F.slot_str_endswith PySem.F.type_str_endswith aHL ho.h (acB he.h ac7 hs) hbase hfew hline hs hplain⟩
end
end L2
namespace KM
open PySem PySem.Spec PyProof.Rows L2
noncomputable def adC(t:List Nat):Option Mk:=
 if t=[76] then some (.lst 0) else if t=[76,87] then some .wrk
 else if t.take ([76,45]:List Nat).length=[76,45] then (aa6 1 30 (afT t (some 2) none)).map Mk.lst
 else if t.getLast? =some 87 then (aa6 1 31 (afT t none (some (-1)))).map Mk.nea else none
noncomputable def wdN(t:List Nat):Option Int:=(aa6 0 7 t).map fun n=>if n=7 then 0 else n
noncomputable def aCP:Option Int->Option Int->Option Mk
 |some w,some m=>some (.nth w m)
 |_,_=>none
noncomputable def aoO(t:List Nat):Option Mk:=
 if t.getLast? =some 76 then (wdN (afT t none (some (-1)))).map Mk.one
 else match spl 35 t with
  |[a,b]=>aCP (wdN a) (aa6 1 5 b)
  |_=>none
noncomputable def rdM(wk:Bool)(t:List Nat):Option Mk:=if wk=true then aoO t else adC t
noncomputable def MkV(c:Cs)(H:Hp)(v:V):Option Mk->Prop
 |none=>v=.non
 |some k=>∃x,v=.ref x/\MkAt c H x k
theorem ab4(c:Nat):∀(l:List Nat),∀w∈spl c l,w.length<=l.length
 |[],w,hw=>by simp[spl] at hw;simp[hw]
 |x::r,w,hw=>by
  have ih:=ab4 c r
  unfold spl at hw
  split at hw
  ·rcases aX.mp hw with z | z
   ·subst z;simp
   ·have:=ih w z;simp;omega
  ·split at hw
   ·rename_i h t e
    rcases aX.mp hw with z | z
    ·subst z
     have:=ih h (by rw[e];simp)
     simp;omega
    ·have:=ih w (by rw[e];simp[z])
     simp;omega
   ·have:w=[x]:=by simpa using hw
    subst this;simp
noncomputable def plP(lo hi:Int)(ws:List (List Nat)):List Int:=ws.filterMap (aaI lo hi)
noncomputable def mkP(wk:Bool)(lo hi:Int)(ws:List (List Nat)):List Mk:=ws.filterMap fun w=>if (aaI lo hi w).isSome=true then none else rdM wk w
theorem aAF{lo hi:Int}{ws:List (List Nat)}{w:List Nat}{m:Int}(h:aaI lo hi w=some m):plP lo hi (ws++[w])=plP lo hi ws++[m]:=by
 unfold plP
 rw[dH]
 simp[h]
theorem ayQ{lo hi:Int}{ws:List (List Nat)}{w:List Nat}(h:aaI lo hi w=none):plP lo hi (ws++[w])=plP lo hi ws:=by
 unfold plP
 rw[dH]
 simp[h]
theorem aDY{wk:Bool}{lo hi:Int}{ws:List (List Nat)}{w:List Nat}{m:Int}(h:aaI lo hi w=some m):mkP wk lo hi (ws++[w])=mkP wk lo hi ws:=by
 unfold mkP
 rw[dH]
 simp[h]
theorem akM{wk:Bool}{lo hi:Int}{ws:List (List Nat)}{w:List Nat}{k:Mk}(h:aaI lo hi w=none)(hk:rdM wk w=some k):mkP wk lo hi (ws++[w])=mkP wk lo hi ws++[k]:=by
 unfold mkP
 rw[dH]
 simp[h,hk]
theorem asM(wk:Bool)(lo hi:Int)(ws:List (List Nat))(i:Nat):(mkP wk lo hi (ws.take i)).length<=(mkP wk lo hi ws).length:=((List.take_sublist i ws).filterMap _).length_le
structure ItemsOk(wk:Bool)(lo hi:Int)(l:List Nat):Prop where
 len:l.length<=300
 few:(spl 44 l).length<=40
 all:∀w∈spl 44 l,(aaI lo hi w).isSome=true∨(rdM wk w).isSome=true
 most:(mkP wk lo hi (spl 44 l)).length<=20
theorem aB9{xs:List V}(h:xs.length<=40):akY xs none (some 40)=xs:=by
 unfold akY
 have e1:HT.sIx xs.length 0 none=0:=rfl
 have e2:xs.length<=HT.sIx xs.length xs.length (some 40):=by
  show xs.length<=HT.sIx xs.length xs.length (some 40)
  unfold HT.sIx
  simp
  omega
 rw[e1,List.drop_zero,Nat.sub_zero]
 exact dP e2
noncomputable def RunV(H:Hp)(r:V):Option (Int×Int)->Prop
 |none=>r=.non
 |some (a,b)=>∃p,r=.ref p/\H p=some (.tup [.int a,.int b])
theorem aAH(es:List (Option Int)):(es.map oV).all agB=true:=by
 rw[List.all_map]
 refine b9.mpr fun x _=>?_
 cases x<;>rfl
noncomputable def wk7(m:Int):Int:=Builtin.bitAnd (Builtin.bitOr m (m / 2^(7:Int).toNat)) 127
noncomputable def af6(wk:Bool)(m:Int):List Mk:=if m=0 then [] else if wk=true then [.wkd (wk7 m)] else [.num m]
noncomputable def amF(wk:Bool)(lo hi:Int)(l:List Nat):List Mk:=af6 wk (orM (plP lo hi (spl 44 l)))++mkP wk lo hi (spl 44 l)
noncomputable def Cl(t:List Nat):Prop:=(44∉t/\32∉t)/\t≠[]/\t.length<=8
instance (t:List Nat):Decidable (Cl t):=by unfold Cl;exact inferInstance
noncomputable def aeB(lo hi:Int)(t:List Nat)(ns:List Int):Prop:=aaI lo hi t=some (abY ns)/\Cl t/\(∀n∈ns,lo<=n/\n<=hi)/\ns≠[]/\ns.length<=64
theorem adG{c:Nat}{a b:List Nat}{d:Nat}(h1:c∉a)(h2:c∉b)(h3:c≠d):c∉a++d::b:=by
 simp only[bZ,aX,not_or]
 exact⟨h1,h3,h2⟩
theorem apA{a b:List Nat}{d:Nat}(ha:(44∉a/\32∉a)/\a≠[]/\a.length<=5)(hb:(44∉b/\32∉b)/\b.length<=2)(h1:44≠d)(h2:32≠d):Cl (a++d::b):=by
 refine⟨⟨adG ha.1.1 hb.1.1 h1,adG ha.1.2 hb.1.2 h2⟩,by simp,?_⟩
 have:=ha.2.2
 have:=hb.2
 rw[aW,bJ]
 omega
theorem adY{n:Nat}(h:n<100):(44∉num n/\32∉num n)/\num n≠[]/\(num n).length<=2:=⟨⟨abD h (by decide),abD h (by decide)⟩,amT n,(acC n h).2.2.2⟩
theorem aiT{a b s lo hi:Int}(h0:0<=a)(h1:b<=63)(hab:a<=b)(hs:0<s)(hl:lo<=a)(hb:b<=hi):(∀n∈acU a b s,lo<=n/\n<=hi)/\acU a b s≠[]/\(acU a b s).length<=64:=by
 refine⟨fun n hn=>?_,fun e=>?_,?_⟩
 ·have:=(aoW hs).mp hn
  omega
 ·have:a∈acU a b s:=(aoW hs).mpr ⟨a8 _,hab,by rw[Int.sub_self];rfl⟩
  rw[e] at this
  cases this
 ·rw[akU,aU,dG,akO hs,if_pos hab]
  have:=Int.ediv_le_self (a:=b-a) s (by omega)
  omega
theorem avE(a:Int):acU a a 1=[a]:=by
 rw[akU,akO (by decide),if_pos (a8 a),Int.sub_self]
 show [a+((0:Nat):Int)*1]=[a]
 simp
theorem i1{lo hi a:Int}(h0:0<=lo)(h1:lo<=a)(h2:a<=hi)(h3:hi<=63):aeB lo hi (num a.toNat) [a]:=by
 have ha:a.toNat<100:=by omega
 have e:=avM (lo:=lo) (hi:=hi) ha (by omega) (by omega)
 rw[b5 (by omega)] at e
 have c:=adY ha
 have r:=aiT (a:=a) (b:=a) (s:=1) (lo:=lo) (hi:=hi) (by omega) (by omega) (by omega) (by decide) h1 h2
 have e2:=alW (abD ha (by decide)) e
 unfold afQ at e2
 rw[avE] at e2 r
 exact⟨e2,⟨c.1,c.2.1,by have:=c.2.2;omega⟩,r⟩
theorem i2{lo hi a b:Int}(h0:0<=lo)(h1:lo<=a)(h2:a<=b)(h4:b<=hi)(h3:hi<=63):aeB lo hi (num a.toNat++45::num b.toNat) (acU a b 1):=by
 have ha:a.toNat<100:=by omega
 have hb:b.toNat<100:=by omega
 have e:=avI (lo:=lo) (hi:=hi) ha hb (by omega) (by omega) (by omega)
 rw[b5 (by omega),b5 (by omega)] at e
 have ca:=adY ha
 have cb:=adY hb
 exact⟨alW (adG (abD ha (by decide)) (abD hb (by decide)) (by decide)) e,apA ⟨ca.1,ca.2.1,by have:=ca.2.2;omega⟩ ⟨cb.1,cb.2.2⟩ (by decide) (by decide),aiT (by omega) (by omega) h2 (by decide) h1 h4⟩
theorem i0{lo hi:Int}(h0:0<=lo)(h1:lo<=hi)(h3:hi<=63):aeB lo hi [42] (acU lo hi 1):=
 ⟨alW (by decide) asE,by decide,aiT h0 h3 h1 (by decide) (a8 _) (a8 _)⟩
theorem i3{lo hi s:Int}(h0:0<=lo)(h1:lo<=hi)(h3:hi<=63)(hs:1<=s/\s<=99):aeB lo hi ([42]++47::num s.toNat) (acU lo hi s):=by
 have hs':s.toNat<100:=by omega
 have e:=alZ (show 47∉[42] by decide) (asE (lo:=lo) (hi:=hi)) hs' (by omega)
 rw[if_neg (by decide),b5 (by omega)] at e
 have cs:=adY hs'
 exact⟨e,apA (by decide) ⟨cs.1,cs.2.2⟩ (by decide) (by decide),aiT h0 h3 h1 (by omega) (a8 _) (a8 _)⟩
theorem i4{lo hi a s:Int}(h0:0<=lo)(h1:lo<=a)(h2:a<=hi)(h3:hi<=63)(hs:1<=s/\s<=99):aeB lo hi (num a.toNat++47::num s.toNat) (acU a hi s):=by
 have ha:a.toNat<100:=by omega
 have hs':s.toNat<100:=by omega
 have e1:=avM (lo:=lo) (hi:=hi) ha (by omega) (by omega)
 have e:=alZ (abD ha (by decide)) e1 hs' (by omega)
 rw[if_pos (acC _ ha).1,b5 (by omega),b5 (by omega)] at e
 have ca:=adY ha
 have cs:=adY hs'
 exact⟨e,apA ⟨ca.1,ca.2.1,by have:=ca.2.2;omega⟩ ⟨cs.1,cs.2.2⟩ (by decide) (by decide),aiT (by omega) h3 h2 (by omega) h1 (a8 _)⟩
theorem i5{lo hi a b s:Int}(h0:0<=lo)(h1:lo<=a)(h2:a<=b)(h4:b<=hi)(h3:hi<=63)(hs:1<=s/\s<=99):aeB lo hi ((num a.toNat++45::num b.toNat)++47::num s.toNat) (acU a b s):=by
 have ha:a.toNat<100:=by omega
 have hb:b.toNat<100:=by omega
 have hs':s.toNat<100:=by omega
 have e1:=avI (lo:=lo) (hi:=hi) ha hb (by omega) (by omega) (by omega)
 have e:=alZ (adG (abD ha (by decide)) (abD hb (by decide)) (by decide)) e1 hs' (by omega)
 rw[if_neg (by rw[aEE (c:=45) (by simp) (by decide)];exact bC),b5 (by omega),b5 (by omega),b5 (by omega)] at e
 have ca:=adY ha
 have cb:=adY hb
 have cs:=adY hs'
 refine⟨e,apA ⟨⟨adG ca.1.1 cb.1.1 (by decide),adG ca.1.2 cb.1.2 (by decide)⟩,by simp,?_⟩ ⟨cs.1,cs.2.2⟩ (by decide) (by decide),aiT (by omega) (by omega) h2 (by omega) h1 h4⟩
 have:=ca.2.2
 have:=cb.2.2
 rw[aW,bJ]
 omega
theorem agI{m:Int}(h:0<=m)(i:Nat):0<=wk7 m/\tb (wk7 m) i=((tb m i||tb m (7+i))&&decide (i<7)):=by
 have h1:(0:Int)<=m / 2^(7:Int).toNat:=Int.ediv_nonneg h (by decide)
 unfold wk7
 refine⟨agU (agG h h1) (by decide),?_⟩
 rw[adA (agG h h1) (by decide),alQ h h1,azJ h]
 have e:tb 127 i=decide (i<7):=ap1 7 i
 rw[e]
 rfl
theorem ar8{ms:List Int}(h:∀m∈ms,0<=m):orM ms=0↔∀m∈ms,m=0:=by
 constructor
 ·intro e m hm
  refine abZ (h m hm) (a8 0) fun i=>?_
  have z:=agO h i
  rw[e,acJ] at z
  have:=cQ.mp z.symm m hm
  rw[acJ]
  simpa using this
 ·intro e
  refine abZ (ae4 h) (a8 0) fun i=>?_
  rw[agO h,acJ,cQ]
  intro m hm
  rw[e m hm,acJ]
  exact bC
theorem axQ{ms:List Int}(h:∀m∈ms,0<=m):wk7 (orM ms)=orM (ms.map wk7):=by
 have h':∀m∈ms.map wk7,0<=m:=fun m hm=>by
  obtain⟨z,hz,rfl⟩:=bR.mp hm
  exact (agI (h z hz) 0).1
 refine abZ (agI (ae4 h) 0).1 (ae4 h') fun i=>?_
 rw[(agI (ae4 h) i).2,agO h,agO h,agO h',List.any_map,cI]
 simp only[bX,Bool.or_eq_true,List.any_eq_true,d7,Function.comp]
 constructor
 ·rintro⟨⟨m,hm,e⟩ | ⟨m,hm,e⟩,hi⟩
  ·exact⟨m,hm,by rw[(agI (h m hm) i).2,e,d6 hi];rfl⟩
  ·exact⟨m,hm,by rw[(agI (h m hm) i).2,e,d6 hi,Bool.or_true];rfl⟩
 ·rintro⟨m,hm,e⟩
  rw[(agI (h m hm) i).2,bX,Bool.or_eq_true,d7] at e
  rcases e with ⟨e | e,hi⟩
  ·exact⟨.inl ⟨m,hm,e⟩,hi⟩
  ·exact⟨.inr ⟨m,hm,e⟩,hi⟩
theorem aCT{m:Int}(h0:0<m)(h1:m<=255):wk7 m≠0/\0<=wk7 m/\wk7 m<=127:=by
 have all:∀n:Nat,n<256->0<n->wk7 (n:Int)≠0/\0<=wk7 (n:Int)/\wk7 (n:Int)<=127:=by decide +kernel
 have e:m=((m.toNat:Nat):Int):=by omega
 rw[e]
 exact all m.toNat (by omega) (by omega)
noncomputable def SpT(b:Bool)(t:List Nat):Mk->Prop
 |.num m=>b=false/\aaI 1 31 t=some m/\0<m
 |.wkd m=>b=true/\∃M,aaI 0 7 t=some M/\(0<M/\M<=255)/\m=wk7 M
 |.nil=>False
 |k=>aaI (if b=true then 0 else 1) (if b=true then 7 else 31) t=none/\rdM b t=some k
theorem axL:SpT false [76] (.lst 0)/\Cl [76]:=by
 refine⟨⟨?_,?_⟩,by decide⟩<;>decide +kernel
theorem ax4:SpT false [76,87] .wrk/\Cl [76,87]:=by
 refine⟨⟨?_,?_⟩,by decide⟩<;>decide +kernel
theorem axZ:∀n:Nat,n<31->1<=n->(aaI 1 31 ([76,45]++num n)=none/\rdM false ([76,45]++num n)=some (.lst n))/\Cl ([76,45]++num n):=by decide +kernel
theorem aC6:∀n:Nat,n<32->1<=n->(aaI 1 31 (num n++[87])=none/\rdM false (num n++[87])=some (.nea n))/\Cl (num n++[87]):=by decide +kernel
theorem aIH:∀n:Nat,n<8->(aaI 0 7 (num n++[76])=none/\rdM true (num n++[76])=some (.one ((n:Int)%7)))/\Cl (num n++[76]):=by decide +kernel
theorem aLQ:∀n:Nat,n<8->∀m:Nat,m<6->1<=m->(aaI 0 7 (num n++[35]++num m)=none/\rdM true (num n++[35]++num m)=some (.nth ((n:Int)%7) m))/\Cl (num n++[35]++num m):=by decide +kernel
theorem anQ{ns:List Int}(h:ns≠[])(hn:∀n∈ns,0<=n):0<abY ns:=by
 have h0:=aeJ ns
 rcases Int.lt_or_eq_of_le h0 with h1 | h1
 ·exact h1
 ·cases ns with
  |nil=>exact absurd rfl h
  |cons n r=>
   have z:=ahM (n::r) n.toNat
   rw[←h1,acJ,cG] at z
   simp at z
theorem arQ{ns:List Int}{n:Nat}(hn:∀z∈ns,0<=z/\z<(n:Int)):abY ns<2^n:=by
 have e:abY ns=mk_ (tb (abY ns)) n:=by
  refine abZ (aeJ _) (avC _ _) fun i=>?_
  rw[au5]
  by_cases c:i<n
  ·rw[d6 c,Bool.true_and]
  ·rw[d8 c,Bool.false_and,ahM,cQ]
   intro z hz
   have:=hn z hz
   have:¬z.toNat=i:=by omega
   simpa using this
 rw[e]
 exact axY _ _
end KM
namespace L2
open PySem PySem.Spec PyProof.Rows PySem.SeqAt
section
variable{X:Cx}
theorem cIn:Cl1 X (.builtin "isinstance") (fun xs H Q=>∃(v:V) (t:Value) (C':Addr) (b:Bool),xs=[v,.ref C']/\TyOf X.K H v t/\PySem.W.kitOne X.K t (.ref C')=some b/\Q (.bl b) H):=by
 refine⟨fun pins s σ H xs us Q I r h=>?_⟩
 obtain⟨v,t,C',b,rfl,ty,e,q⟩:=h
 obtain⟨u,w',rfl,r1,r2⟩:=aw5 r
 cases r2
 exact av4 I r1 ty e fun tk=>⟨.bl b,H,I.tok _,rfl,q⟩
structure IsC(K:FG)(C:Addr):Prop where
 ha:PySem.W.findIn K (.ref C) "__class__"=some (some (.builtin "object.__class__"))
 hn:PySem.W.specialIn K (.builtin "object.__class__") "__get__"=some (some (.builtin "getset_descriptor.__get__"))
 htk:PySem.W.takesIn K (.builtin "object.__class__")=some true
 hm:PySem.W.mroIn K C (.type "object")=some true
theorem IsC.ty{K:FG}{C a dx:Addr}{H:Hp}{fs:List (Str×V)}(i:IsC K C)(c:Cls K C)(h:H a=some (.ins C dx fs)):TyOf K H (.ref a) (.ref C):=.ins h c i.ha i.hn i.htk i.hm
end
end L2
namespace KM
open PySem PySem.Spec PyProof.Rows L2
noncomputable def Mk.pl:Mk->Option Int
 |.num m=>some m
 |.wkd m=>some m
 |_=>none
noncomputable def plK(ks:List Mk):List Int:=ks.filterMap Mk.pl
noncomputable def otK(ks:List Mk):List Mk:=ks.filter fun k=>k.pl.isNone
noncomputable def auZ(b:Bool)(M:Int):List Mk:=if M=0 then [] else if b=true then [.wkd M] else [.num M]
noncomputable def ayL(b:Bool)(ks:List Mk):List Mk:=auZ b (orM (plK ks))++otK ks
theorem aL4{b:Bool}{ks:List Mk}(h:∀k∈ks,k.sp=true/\k.wk=b/\k.ok):∀m∈plK ks,0<=m/\(b=true->m<=127):=by
 intro m hm
 obtain⟨k,hk,e⟩:=b7.mp hm
 have:=h k hk
 cases k with
 |num z=>cases e;exact⟨this.2.2,fun hb=>by rw[←this.2.1] at hb;cases hb⟩
 |wkd z=>cases e;exact⟨this.2.2.1,fun _=>this.2.2.2⟩
 |lst z=>cases e
 |nea z=>cases e
 |wrk=>cases e
 |nth z y=>cases e
 |one z=>cases e
 |nil=>cases e
theorem aE7{ms:List Int}{n:Nat}(h:∀m∈ms,0<=m/\m<2^n):orM ms<2^n:=by
 have h0:∀m∈ms,0<=m:=fun m hm=>(h m hm).1
 have e:orM ms=mk_ (tb (orM ms)) n:=by
  refine abZ (ae4 h0) (avC _ _) fun i=>?_
  rw[au5]
  by_cases c:i<n
  ·rw[d6 c,Bool.true_and]
  ·rw[d8 c,Bool.false_and,agO h0,cQ]
   intro m hm
   rw[akL (h m hm).2 (by omega)]
   exact bC
 rw[e]
 exact axY _ _
theorem aBY{b:Bool}{ks:List Mk}(h:∀k∈ks,k.sp=true/\k.wk=b/\k.ok):∀k∈auZ b (orM (plK ks)),k.sp=true/\k.wk=b/\k.ok:=by
 have hp:=aL4 h
 have h0:0<=orM (plK ks):=ae4 fun m hm=>(hp m hm).1
 intro k hk
 unfold auZ at hk
 split at hk
 ·cases hk
 ·split at hk
  ·rename_i hb
   rw[bQ.mp hk,hb]
   have e:(2:Int)^7=128:=by decide
   have:=aE7 (n:=7) (ms:=plK ks) fun m hm=>⟨(hp m hm).1,by have:=(hp m hm).2 hb;omega⟩
   exact⟨rfl,rfl,h0,by omega⟩
  ·rename_i hb
   rw[bQ.mp hk]
   exact⟨rfl,by cases b with | true=>exact absurd rfl hb | false=>rfl,h0⟩
noncomputable abbrev Ws(b:Bool):List (List Nat)->List Mk->Prop:=Paired fun w k=>Cl w/\SpT b w k
noncomputable def lo_(b:Bool):Int:=if b=true then 0 else 1
noncomputable def hi_(b:Bool):Int:=if b=true then 7 else 31
theorem aAJ(k:Mk)(ks:List Mk):plK (k::ks)=(match k.pl with | some m=>m::plK ks | none=>plK ks)/\otK (k::ks)=(match k.pl with | some _=>otK ks | none=>k::otK ks):=by
 unfold plK otK
 rw[cU,List.filter_cons]
 cases k.pl<;>exact⟨rfl,rfl⟩
theorem aAZ(b:Bool)(lo hi:Int)(w:List Nat)(ws:List (List Nat)):plP lo hi (w::ws)=(match aaI lo hi w with | some m=>m::plP lo hi ws | none=>plP lo hi ws)/\mkP b lo hi (w::ws)=(match aaI lo hi w with | some _=>mkP b lo hi ws | none=>match rdM b w with | some k=>k::mkP b lo hi ws | none=>mkP b lo hi ws):=by
 unfold plP mkP
 rw[cU,cU]
 cases aaI lo hi w with
 |some m=>exact⟨rfl,rfl⟩
 |none=>exact⟨rfl,by cases rdM b w<;>rfl⟩
noncomputable def WsI(b:Bool)(ws:List (List Nat))(ks:List Mk):Prop:=mkP b (lo_ b) (hi_ b) ws=otK ks/\plK ks=(plP (lo_ b) (hi_ b) ws).map (fun m=>if b=true then wk7 m else m)/\(∀m∈plP (lo_ b) (hi_ b) ws,0<m/\(b=true->m<=255))/\∀w∈ws,(aaI (lo_ b) (hi_ b) w).isSome=true∨(rdM b w).isSome=true
theorem azE(b:Bool):∀{ws:List (List Nat)} {ks:List Mk},Ws b ws ks->WsI b ws ks
 |_,_,.nil=>⟨rfl,rfl,fun m hm=>(nomatch hm),fun w hw=>(nomatch hw)⟩
 |w::ws,k::ks,.cons r t=>by
  obtain⟨i1,i2,i3,i4⟩:=azE b t
  have c1:=aAJ k ks
  have c2:=aAZ b (lo_ b) (hi_ b) w ws
  have plain:∀(m M:Int),k.pl=some m->aaI (lo_ b) (hi_ b) w=some M->(m=if b=true then wk7 M else M)->(0<M/\(b=true->M<=255))->WsI b (w::ws) (k::ks):=fun m M e1 e2 e3 e4=>by
   unfold WsI
   rw[e1] at c1
   rw[e2] at c2
   rw[c1.1,c1.2,c2.1,c2.2]
   refine⟨i1,by rw[bI,←e3,←i2],fun z hz=>?_,fun v hv=>?_⟩
   ·rcases aX.mp hz with rfl | hz
    ·exact e4
    ·exact i3 z hz
   ·rcases aX.mp hv with rfl | hv
    ·exact .inl (by rw[e2];rfl)
    ·exact i4 v hv
  have mark:k.pl=none->aaI (lo_ b) (hi_ b) w=none->rdM b w=some k->WsI b (w::ws) (k::ks):=fun e1 e2 e3=>by
   unfold WsI
   rw[e1] at c1
   rw[e2,e3] at c2
   rw[c1.1,c1.2,c2.1,c2.2]
   refine⟨by rw[i1],i2,i3,fun v hv=>?_⟩
   rcases aX.mp hv with rfl | hv
   ·exact .inr (by rw[e3];rfl)
   ·exact i4 v hv
  cases k with
  |num m=>
   obtain⟨_,hb,hr,h0⟩:=r
   subst hb
   exact plain m m rfl hr rfl ⟨h0,fun z=>nomatch z⟩
  |wkd m=>
   obtain⟨_,hb,M,hr,h0,hm⟩:=r
   subst hb
   exact plain m M rfl hr hm ⟨h0.1,fun _=>h0.2⟩
  |lst z=>exact mark rfl r.2.1 r.2.2
  |nea z=>exact mark rfl r.2.1 r.2.2
  |wrk=>exact mark rfl r.2.1 r.2.2
  |nth z y=>exact mark rfl r.2.1 r.2.2
  |one z=>exact mark rfl r.2.1 r.2.2
  |nil=>exact r.2.elim
theorem ax0{b:Bool}{ws:List (List Nat)}{ks:List Mk}{l:List Nat}(h:Ws b ws ks)(hl:spl 44 l=ws):amF b (lo_ b) (hi_ b) l=ayL b ks:=by
 obtain⟨i1,i2,i3,_⟩:=azE b h
 have hz:∀m∈plP (lo_ b) (hi_ b) ws,0<=m:=fun m hm=>Int.le_of_lt (i3 m hm).1
 unfold amF ayL
 rw[hl,i1,i2]
 congr 1
 cases b with
 |false=>
  have e:(plP (lo_ false) (hi_ false) ws).map (fun m=>if false=true then wk7 m else m)=plP (lo_ false) (hi_ false) ws:=List.map_id'' (fun _=>rfl) _
  rw[e]
  rfl
 |true=>
  have e:orM ((plP (lo_ true) (hi_ true) ws).map (fun m=>if true=true then wk7 m else m))=wk7 (orM (plP (lo_ true) (hi_ true) ws)):=(axQ hz).symm
  rw[e]
  unfold af6 auZ
  by_cases c:orM (plP (lo_ true) (hi_ true) ws)=0
  ·rw[if_pos c,c]
   rfl
  ·have c2:¬wk7 (orM (plP (lo_ true) (hi_ true) ws))=0:=fun z=>c (by
    rw[axQ hz] at z
    have h0:∀m∈(plP (lo_ true) (hi_ true) ws).map wk7,0<=m:=fun m hm=>by
     obtain⟨y,hy,rfl⟩:=bR.mp hm
     exact (agI (hz y hy) 0).1
    rw[ar8 hz]
    intro m hm
    have:=(ar8 h0).mp z (wk7 m) (bR.mpr ⟨m,hm,rfl⟩)
    exact absurd this (aCT (i3 m hm).1 ((i3 m hm).2 rfl)).1)
   rw[if_neg c,if_neg c2]
   rfl
theorem none_of{H H':Hp}(s:Same H H'){p:Addr}(h:H' p=none):H p=none:=by
 cases e:H p with
 |none=>rfl
 |some o=>rw[s _ _ e] at h;cases h
theorem al1:∀(ws:List (List Nat)),(∀w∈ws,w.length<=8)->(aa1 44 ws).length<=9*ws.length
 |[],_=>bM _
 |[w],h=>by
  have:=h w (bO ..)
  show w.length<=9
  omega
 |w::v::ws,h=>by
  have ih:=al1 (v::ws) fun z hz=>h z (bF _ hz)
  have:=h w (bO ..)
  show (w++44::aa1 44 (v::ws)).length<=_
  rw[aW,bJ,bJ]
  omega
theorem Ws.cl{b:Bool}:∀{ws:List (List Nat)} {ks:List Mk},Ws b ws ks->∀w∈ws,Cl w
 |_,_,.nil,w,hw=>nomatch hw
 |_,_,.cons r t,w,hw=>by
  rcases aX.mp hw with rfl | hw
  ·exact r.1
  ·exact Ws.cl t w hw
theorem aCX{b:Bool}{ws:List (List Nat)}{ks:List Mk}(h:Ws b ws ks)(hne:ws≠[])(hn:ws.length<=20):spl 44 (aa1 44 ws)=ws/\ItemsOk b (lo_ b) (hi_ b) (aa1 44 ws):=by
 have hs:=aeL 44 ws hne fun w hw=>(h.cl w hw).1.1
 have hl:=al1 ws fun w hw=>(h.cl w hw).2.2
 refine⟨hs,by omega,by rw[hs];omega,?_,?_⟩
 ·rw[hs]
  exact (azE b h).2.2.2
 ·rw[hs]
  exact bT (List.length_filterMap_le ..) hn
theorem Paired.at{α β:Type}{F:α->β->Prop}:∀{l:List α} {r:List β} {i:Nat} {a:α},Paired F l r->l[i]? =some a->∃b,r[i]? =some b/\F a b
 |_,_,_,_,.nil,e=>by simp at e
 |_,_,0,_,.cons h _,e=>by
  have:=bA e
  subst this
  exact⟨_,rfl,h⟩
 |_,_,i+1,_,.cons _ t,e=>Paired.at (i:=i) t e
noncomputable def rt(x:Nat×Nat):List Nat:=if x.1=x.2 then num x.1 else num x.1++45::num x.2
theorem ay0{x:Int}(h0:0<=x){n:Nat}(h:∀i,tb x i=true->i<n):x<2^n:=by
 have e:mk_ (tb x) n=x:=abZ (avC _ _) h0 fun i=>by
  rw[au5]
  cases c:tb x i
  ·simp
  ·simp[h i c]
 rw[←e]
 exact axY _ _
noncomputable def plm(b:Bool)(x:Nat×Nat):Mk:=if b=true then .wkd (wk7 (afQ x.1 x.2 1)) else .num (afQ x.1 x.2 1)
theorem aKQ{lo hi:Int}{x:Nat×Nat}(h0:0<=lo)(h1:lo<=x.1)(h2:x.1<=x.2)(h3:(x.2:Int)<=hi)(h4:hi<=63):aeB lo hi (rt x) (acU x.1 x.2 1):=by
 unfold rt
 by_cases c:x.1=x.2
 ·rw[if_pos c,←c,avE]
  exact i1 (a:=(x.1:Int)) h0 h1 (by omega) h4
 ·rw[if_neg c]
  exact i2 (a:=(x.1:Int)) (b:=(x.2:Int)) h0 h1 (by omega) h3 h4
theorem ap6{b:Bool}{x:Nat×Nat}(h1:lo_ b<=x.1)(h2:x.1<=x.2)(h3:(x.2:Int)<=hi_ b):Cl (rt x)/\SpT b (rt x) (plm b x):=by
 cases b with
 |true=>
  have t:=aKQ (lo:=0) (hi:=7) (x:=x) (by decide) h1 h2 h3 (by decide)
  have hin:=t.2.2.1
  have hlt:=arQ (n:=8) (ns:=acU x.1 x.2 1) (fun z hz=>by have:=hin z hz;omega)
  have e256:(2:Int)^8=256:=by decide
  exact⟨t.2.1,rfl,_,t.1,⟨anQ t.2.2.2.1 (fun n hn=>(hin n hn).1),by omega⟩,rfl⟩
 |false=>
  have t:=aKQ (lo:=1) (hi:=31) (x:=x) (by decide) h1 h2 h3 (by decide)
  exact⟨t.2.1,rfl,t.1,anQ t.2.2.2.1 (fun n hn=>by have:=(t.2.2.1 n hn).1;omega)⟩
theorem aqO{α:Type}{p q:α->Bool}:∀{l:List α},(∀x∈l,p x=q x)->l.any p=l.any q
 |[],_=>rfl
 |x::r,h=>by rw[cG,cG,h x (bO ..),aqO fun y hy=>h y (bF _ hy)]
theorem arM{b:Bool}{ks:List Mk}(h:∀k∈ks,k.sp=true/\k.wk=b/\k.ok):∀k∈ayL b ks,k.sp=true/\k.wk=b/\k.ok:=fun k hk=>by
 rcases bZ.mp hk with z | z
 ·exact aBY h k z
 ·exact h k ((List.mem_filter.mp z).1)
end KM
namespace L2
open PySem PySem.Spec PyProof.Rows
section
variable{X:Cx}{f:Addr}{k k':Nat}{ps:List Str}{sp:Sp}{x y e:Expr}{es:List Expr}{t:TA}{tv:TE}{p pos:Pos}
end
section
variable{X:Cx}{C:Addr}{m:Str}{k k':Nat}{ps:List Str}{sp:Sp}{o:Expr}{ta:TE}{apos pos:Pos}
theorem aEY{pl:Sem Bool}(c:Cls X.K C)(D:DfM X.prog X.w X.K X.mg X.base C m k ps sp)(hr:Room k' X.A)(ho:E X o ta)(hk:k<=k':=by decide)
  (ht:eval (.Call (.Attribute o m apos) [] [] pos) X.env=(do
   let ov ←eval o X.env
   standAt apos.atName
   let (f,first) ←holding [ov] (getMethod ov m pl)
   callWith pos f first (backTo pos (starEach [] X.env)) (backToKw pos (keywordEach [] X.env))):=by rfl):E X (.Call (.Attribute o m apos) [] [] pos) (aqN C m sp [] E0 ta adJ):=by
 obtain⟨f,fd,F,hb,hm⟩:=D.ex
 exact⟨axJ ho.h c hm F (hr.mono hk) hb .nil alM ht⟩
end
section
variable{X:Cx}{body:List Stmt}{tb:TS}{h:ExceptHandler}{hs:List ExceptHandler}{pos:Pos}
theorem aNW(hb:Ss X.nox body tb):S X (.Try body (h::hs) [] [] pos) tb:=by
 refine⟨fun pins s σ H D I hw=>?_⟩
 refine wpAny_Try_except (dX (hb.h pins s σ H D (I.wish _) hw) (fun f s1 q=>?_) fun e s1 hx=>False.elim hx)
 cases f with
 |next=>exact wpAny_execs_nil q.unwish
 |ret v=>exact q.unwish
 |brk=>exact q.unwish
 |cont=>exact q.unwish
end
section
variable{js:List Nat}{σ:St}{tt:TT}{te:TE}{Q:VK}{H1:Hp}
theorem atK{K K':FG}{a:Addr}{xs:List V}(R:Addr->Nat->List V->Hp->Prop)(hm:∀D i l H l',R D i l H->R D i l (upd H D (.lst l')))(hS:∀D i l H H',Same H H'->R D i l H->R D i l H')(hn:xs.length<=sizeLine)(h0:∀D,H1 D=none->R D 0 [] H1)(hq:SqL K H1 a xs)
  (hs:∀(i:Nat) (x:V) (l:List V) (D:Addr) (H2:Hp) (E:V->Hp->Prop) (F:Hp->Prop),xs[i]? =some x->R D i l H2->H1 D=none->Same H1 H2->H2 D=some (.lst l)->(∀y H5,Same H2 H5->R D (i+1) (l++[y]) H5->E y H5)->(∀H4,Same H2 H4->R D (i+1) l H4->F H4)->
   tt (some (.int i)::some x::aa3 js σ) H2 fun b H4=>if b=true then te (some (.int i)::some x::aa3 js σ) H4 E else F H4)
  (hd:∀(D:Addr) (H2:Hp) (l:List V),R D xs.length l H2->H1 D=none->Same H1 H2->H2 D=some (.lst l)->Q (.ref D) H2):
  atA (Ite K a) 2 js (ayR K' 2 (aoE (ad5 0) (aoE (ad5 1) aAB))) σ tt te Q H1:=by
 intro D hD
 refine⟨fun i m H2=>m=xs.length-i/\i<=xs.length/\Same H1 H2/\∃l,H2 D=some (.lst l)/\l.length<=i/\R D i l H2,⟨xs.length,by simp,bM _,aaB hD _,[],aaA,aV _,hm _ _ _ _ _ (h0 D hD)⟩,?_⟩
 rintro i m H2 ⟨rfl,hi,s2,l,h2,hll,hR⟩
 by_cases hlt:i<xs.length
 ·refine .inr ⟨⟨xs,xs[i],s2.seq hq,by simp[hlt]⟩,fun v H3 y τ hτ=>?_⟩
  obtain⟨T,rfl,hT,ev⟩:=y
  obtain⟨x,hx,rfl⟩:=ev xs (s2.seq hq)
  have sT:=aaB hT (.tup [.int i,x])
  have s3:=s2.trans sT
  have h3:=sT _ _ h2
  obtain⟨t0,t1,rfl⟩:∃t0 t1,τ=[t0,t1]:=by
   match τ,hτ with
   |[a,b],_=>exact⟨a,b,rfl⟩
  have h:=hs i x l D _ (fun y H5=>∃ys,H5 D=some (.lst ys)/\ys.length<sizeLine/\∃m',m'<xs.length-i/\(m'=xs.length-(i+1)/\i+1<=xs.length/\Same H1 (upd H5 D (.lst (ys++[y])))/\∃l,(upd H5 D (.lst (ys++[y]))) D=some (.lst l)/\l.length<=i+1/\R D (i+1) l (upd H5 D (.lst (ys++[y]))))) (fun H4=>∃m',m'<xs.length-i/\(m'=xs.length-(i+1)/\i+1<=xs.length/\Same H1 H4/\∃l,H4 D=some (.lst l)/\l.length<=i+1/\R D (i+1) l H4)) hx (hS _ _ _ _ _ sT hR) hD s3 h3
   (fun z H5 s5 r5=>by
    refine⟨l,s5 _ _ h3,cN hll (a9 hlt hn),xs.length-(i+1),by omega,rfl,hlt,fun b o hb=>?_,l++[z],aaA,by rw[aW,b8];omega,hm _ _ _ _ _ r5⟩
    rw[aaE (aaN hb hD)]
    exact s5 _ _ (s3 _ _ hb))
   (fun H4 s4 r4=>⟨xs.length-(i+1),by omega,rfl,hlt,s3.trans s4,l,s4 _ _ h3,by omega,r4⟩)
  exact⟨T,[.int i,x],rfl,SqT.of aaA,rfl,.int i,[x],rfl,x,[],rfl,rfl,⟨[some (.int i),some x],rfl,rfl⟩,h⟩
 ·have e:i=xs.length:=by omega
  subst e
  exact .inl ⟨⟨xs,s2.seq hq,rfl⟩,hd D H2 l hR hD s2 h2⟩
end
noncomputable def KD(K:FG)(a:Addr)(kvs:List (Int×V)):Prop:=
 ∃(es:Array DictEntry) (ep:Nat) (vs:List (Key×Value)),K.lookup a=some ⟨.type "dict",none,.dict es ep,#[]⟩/\KV (kvs.map fun x=>((Sum.inl x.1:Key),x.2)) vs/\(vs.map (·.1)).Nodup/\∀(P:Program) (w:World),KeysOf (abB P w) es/\PySem.Pairs (abB P w) es.toList vs
noncomputable def aFM(K:FG)(td ty:TE):TE:=fun σ H Q=>td σ H fun x H1=>ty σ H1 fun y H2=>∃a kvs k v,x=.ref a/\KD K a kvs/\y=.int k/\kvs.lookup k=some v/\Q v H2
theorem aB4{k:Int}{v:V}:∀{kvs:List (Int×V)} {vs:List (Key×Value)},KV (kvs.map fun x=>((Sum.inl x.1:Key),x.2)) vs->kvs.lookup k=some v->∃w',valueAt vs (Sum.inl k:Key)=some w'/\RelV v w'
 |[],_,_,h=>by cases h
 |(k0,v0)::r,_,.cons (b:=(k1,w1)) h t,hl=>by
  obtain⟨e1,e2⟩:=h
  have e1:(Sum.inl k0:Key)=k1:=e1
  subst e1
  rw[c5] at hl
  unfold valueAt
  by_cases c:k=k0
  ·subst c
   rw[show (k==k)=true from beq_self_eq_true k] at hl
   cases hl
   refine⟨w1,?_,e2⟩
   rw[List.find?_cons_of_pos (by simp)]
   rfl
  ·rw[show (k==k0)=false from beq_false_of_ne c] at hl
   obtain⟨w',h1,h2⟩:=aB4 t hl
   refine⟨w',?_,h2⟩
   rw[List.find?_cons_of_neg (by simp;exact fun z=>c z.symm)]
   exact h1
section
variable{X:Cx}{o i:Expr}{td ty:TE}{pos:Pos}
theorem eDgK(ho:E X o td)(hi:E X i ty)(hs:aA2 i:=by intro _ _;rfl):E X (.Subscript o i pos) (aFM X.K td ty):=by
 refine⟨fun pins s σ H Q I h=>?_⟩
 refine auQ PySem.F.slot_dict_getitem.lookup hs (thn (ho.h pins s σ H _ I h) fun u s1 ⟨x,H1,I1,rx,q1⟩=>thn (hi.h pins s1 σ H1 _ I1 q1) fun iv s2 ⟨y,H2,I2,ry,a,kvs,k,v,ex,hk,ey,l,q2⟩=>?_)
 subst ex
 subst ey
 obtain rfl:u=Value.ref a:=rx
 obtain⟨es,ep,vs,lk,kv,nd,kp⟩:=hk
 obtain⟨k1,k2⟩:=kp X.prog X.w
 have dd:s2.heap.DictOf (abB X.prog X.w) a vs:=⟨_,es,ep,I2.kIn _ _ lk,⟨rfl,rfl,rfl⟩,rfl,k1,k2,nd⟩
 obtain⟨w',hw,rw'⟩:=aB4 kv l
 exact⟨dd.typeIs,wpAny_getItem_of (auK (k:=Sum.inl k) ry) dd.mapOf hw ⟨v,H2,I2.tok _,rw',q2⟩⟩
end
end L2
namespace KM
open PySem PySem.Spec PyProof.Rows L2
theorem aEX{ks:List Mk}{l f:Int}(h:Lf l f)(o:∀k∈ks,k.ok):0<=orK ks l f:=ae4 fun m hm=>by
 obtain⟨k,hk,rfl⟩:=bR.mp hm
 exact aFB (o k hk) h
noncomputable def DV(c:Cs)(H:Hp)(v:V):Option (List Mk)->Prop
 |none=>v=.non
 |some ks=>∃p qs,v=.ref p/\H p=some (.lst (qs.map V.ref))/\Ft (MkAt c H) qs ks/\∀k∈ks,k.ok
theorem DV.keep{c:Cs}{H H':Hp}(s:Same H H'){v:V}:∀{ko:Option (List Mk)},DV c H v ko->DV c H' v ko
 |none,h=>h
 |some _,⟨p,qs,e,h1,h2,h3⟩=>⟨p,qs,e,s _ _ h1,h2.keepM s.keep,h3⟩
noncomputable def orO(ko:Option (List Mk))(a l f:Int):Int:=match ko with
 |none=>a
 |some ks=>Builtin.bitOr a (orK ks l f)
noncomputable def aoC(kd kw:Option (List Mk))(l f:Int):Int:=if kd.isNone=true/\kw.isNone=true then 2*2^l.toNat-2 else orO kw (orO kd 0 l f) l f
noncomputable def DT(b:Bool)(t:List Nat)(ko:Option (List Mk)):Prop:=(32∉t/\t≠[])/\ItemsOk b (lo_ b) (hi_ b) t/\match ko with
 |none=>t=[42]
 |some ks=>t≠[42]/\(∀k∈ks,k.sp=true/\k.wk=b/\k.ok)/\amF b (lo_ b) (hi_ b) t=ayL b ks
noncomputable def gO(b:Bool):Option (List Mk)->Option (List Mk)
 |none=>none
 |some ks=>some (ayL b ks)
theorem aiV{c d:Nat}(hcd:c≠d):∀{ws:List (List Nat)},(∀w∈ws,c∉w)->c∉aa1 d ws
 |[],_=>bV
 |[w],h=>h w (bO ..)
 |w::v::ws,h=>by
  show c∉w++d::aa1 d (v::ws)
  rw[bZ,aX,not_or,not_or]
  exact⟨h w (bO ..),hcd,aiV hcd fun z hz=>h z (bF _ hz)⟩
theorem auE:∀{ws:List (List Nat)},ws≠[]->(∀w∈ws,w≠[])->∀d,aa1 d ws≠[]
 |[],h,_,_=>absurd rfl h
 |[w],_,h,_=>h w (bO ..)
 |w::v::ws,_,h,d=>fun e=>by
  have e:w++d::aa1 d (v::ws)=[]:=e
  rw[List.append_eq_nil_iff] at e
  cases e.2
theorem aCY{b:Bool}{ws:List (List Nat)}{ks:List Mk}(h:Ws b ws ks)(hne:ws≠[])(hn:ws.length<=20)(hs:∀w∈ws,w≠[42])(ho:∀k∈ks,k.sp=true/\k.wk=b/\k.ok):DT b (aa1 44 ws) (some ks):=by
 have w:=aCX h hne hn
 refine⟨⟨aiV (by decide) fun x hx=>(h.cl x hx).1.2,auE hne (fun x hx=>(h.cl x hx).2.1) 44⟩,w.2,fun e=>?_,ho,ax0 h w.1⟩
 have e1:=w.1
 rw[e] at e1
 have e2:spl 44 [42]=[[42]]:=rfl
 rw[e2] at e1
 exact hs [42] (by rw[←e1];exact bQ.mpr rfl) rfl
theorem abE(b:Bool):DT b [42] none:=by
 refine⟨by decide,?_,rfl⟩
 have c:Cl [42]/\SpT b [42] (if b=true then .wkd 127 else .num 4294967294):=by
  cases b with
  |true=>exact⟨by decide,rfl,255,by decide +kernel,by decide,by decide +kernel⟩
  |false=>exact⟨by decide,rfl,by decide +kernel,by decide⟩
 exact (aCX (.cons c .nil:Ws b [[42]] _) (bN _ _) (by show 1<=20;decide)).2
structure FT(lo hi:Int)(t:List Nat)(m:Int):Prop where
 ok:avA lo hi t
 len:t.length<=300
 is:orM (adM lo hi t)=m
 sp:32∉t
 ne:t≠[]
 nn:0<=m
theorem aq2{lo hi:Int}{ws:List (List Nat)}{nss:List (List Int)}(h:Paired (aeB lo hi) ws nss)(hne:ws≠[])(hn:ws.length<=20):FT lo hi (aa1 44 ws) (abY nss.flatten):=by
 have all:∀{ws:List (List Nat)} {nss:List (List Int)},Paired (aeB lo hi) ws nss->(∀w∈ws,Cl w/\(aaI lo hi w).isSome=true)/\(ws.map fun w=>(aaI lo hi w).getD 0)=nss.map abY:=by
  intro ws nss h
  induction h with
  |nil=>exact⟨fun w hw=>(nomatch hw),rfl⟩
  |cons r t ih=>
   refine⟨fun w hw=>?_,?_⟩
   ·rcases aX.mp hw with z | z
    ·subst z;exact⟨r.2.1,by rw[r.1];rfl⟩
    ·exact ih.1 w z
   ·rw[bI,bI,ih.2,r.1];rfl
 have a:=all h
 have hs:=aeL 44 ws hne fun w hw=>(a.1 w hw).1.1.1
 have hl:=al1 ws fun w hw=>(a.1 w hw).1.2.2
 refine⟨⟨by rw[hs];omega,by rw[hs];exact fun w hw=>(a.1 w hw).2⟩,by omega,?_,aiV (by decide) fun x hx=>(a.1 x hx).1.1.2,auE hne (fun x hx=>(a.1 x hx).1.2.1) 44,aeJ _⟩
 unfold adM
 rw[hs,a.2]
 have nn:∀m∈nss.map abY,0<=m:=fun m hm=>by
  obtain⟨z,_,rfl⟩:=bR.mp hm
  exact aeJ _
 refine abZ (ae4 nn) (aeJ _) fun i=>?_
 rw[agO nn,ahM,List.any_map,List.any_flatten]
 exact aqO fun z _=>ahM z i
end KM
namespace L2
open PySem PySem.Spec PyProof.Rows
section
open PySem.W Builtin Builtin.ObjectAttr
variable{prog:Program}{w:World}{A:Around}{E:Value->Shared->Prop}{s:Shared}{K:FG}{x C:Addr}{f:Str}{v:Value}{o:Obj}{vs:Array Value}
end
section
variable{X:Cx}{pins:List (Addr×Obj)}{σ:St}{H:Hp}{s:Shared}{a C:Addr}{f:Str}
end
section
variable{X:Cx}{o e value:Expr}{ta tv:TE}{f:Str}{pos pos':Pos}
end
section
open PySem.W
variable{prog:Program}{w:World}{A:Around}{E:Value->Shared->Prop}{s:Shared}{K:FG}{C fI:Addr}
end
section
variable{X:Cx}{pins:List (Addr×Obj)}{σ:St}{H:Hp}{s:Shared}
end
section
variable{prog:Program}{w:World}{A:Around}{E:Value->Shared->Prop}{s:Shared}{env:Env}
end
section
variable{X:Cx}{E:XK}{x:Str}{C:Addr}{e:Expr}{es:List Expr}{t:TA}{np cpos pos:Pos}{k k':Nat}{ps:List Str}{sp:Sp}
end
section
variable{P:Program}{w:World}{K:FG}{mg:Str->Option Value}{base:Heap}{N ps:List Str}{qual:Str}{scope:Scope}{f:Addr}{cd:Value}{A:Around}{outer:List Env}{s s1:Shared}{H:Hp}{us:List Value}{vs:List V}
end
section
variable{P:Program}{w:World}{K:FG}{mg:Str->Option Value}{base:Heap}{x:Str}{st:Stmt}{ps N:List Str}{k:Nat}{sp:Sp}
end
section
variable{X:Cx}{k k':Nat}{ps:List Str}{sp:Sp}{x:Str}{e:Expr}{es:List Expr}{tA:TA}{p pos:Pos}
end
section
variable{X:Cx}{f:Addr}{k k':Nat}{ps:List Str}{sp:Sp}{x y e:Expr}{es:List Expr}{tA:TA}{tv:TE}{p pos:Pos}{t u:TX}
end
section
variable{M:Model}{A:Around}{E:Value->Shared->Prop}{s:Shared}{f:Obj->Prop}{B:Heap}{env:Env}{outer:List Env}{L e:Addr}{fl:Value}{Q:Unit->Shared->Prop}
end
section
variable{P:Program}{w:World}{K:FG}{mg:Str->Option Value}{base:Heap}{N:List Str}{qual:Str}{scope:Scope}{f:Addr}{cd:Value}{A:Around}{outer:List Env}{s0:Shared}{H0:Hp}{E:XK}
end
section
variable{X:Cx}{elt iter tg:Expr}{xs:List Str}{pos:Pos}{ifs:List Expr}{scope:Scope}{cl:List (Str×Addr)}{N':List Str}{js:List Nat}{tt:TT}{g:TG}{wi:TI}
end
section
variable{P:Program}{w:World}{K:FG}{mg:Str->Option Value}{base:Heap}{N:List Str}{qual:Str}{scope0:Scope}{f:Addr}{cd:Value}{A:Around}{outer:List Env}{s0:Shared}{H0:Hp}{E:XK}
variable{elt iter tg:Expr}{pos:Pos}{ifs:List Expr}{scope:Scope}{js:List Nat}{tt:TT}{te:TX}{g:TG}{wi:TI}
end
section
variable{js:List Nat}{σ:St}{tt:TT}{te:TX}{E:XK}{Q:VK}{H1:Hp}
end
section
variable{P:Program}{w:World}{K:FG}{mg:Str->Option Value}{base:Heap}{m qual:Str}{st:Stmt}{ps N:List Str}{k:Nat}{sp:Sp}{C:Addr}
end
section
variable{X:Cx}{pins:List (Addr×Obj)}{σ:St}{H:Hp}{s:Shared}
end
section
variable{X:Cx}{E:XK}{x:Str}{C a:Addr}{e:Expr}{es:List Expr}{t:TA}{np cpos pos p2:Pos}{j k k':Nat}{ps:List Str}{sp:Sp}
end
section
variable{prog:Program}{w:World}{A:Around}{E:Value->Shared->Prop}{s:Shared}
end
section
variable{X:Cx}{elt iter:Expr}{x:Str}{px pos:Pos}{ifs:List Expr}{scope:Scope}{cl:List (Str×Addr)}{N':List Str}{js:List Nat}{tt:TT}{te:TE}
end
section
variable{X:Cx}{elt a1:Expr}{x:Str}{px pos p rpos:Pos}{ifs:List Expr}{scope:Scope}{js:List Nat}{tt:TT}{te:TE}{tA:TA}
end
section
variable{X:Cx}{pins:List (Addr×Obj)}{σ:St}{H:Hp}{s:Shared}
end
section
variable{X:Cx}{body suite:List Stmt}{b0:Stmt}{tb:TB}{th:Addr->TS}{cx n:Str}{np hpos pos:Pos}{CF:Addr}
end
section
variable{X:Cx}{E:XK}{x:Str}{C:Addr}{np cpos pos:Pos}
end
end L2
namespace L2
open PySem PySem.Spec PyProof.Rows PySem.SeqAt
section
variable{X:Cx}
end
structure DfM1(P:Program)(w:World)(K:FG)(mg:Str->Option Value)(base:Heap)(C:Addr)(m:Str)(k:Nat)(ps:List Str)(sp:Sp):Prop where
 ex:∃(f:Addr) (fd:FuncData),FnOk P w K mg base (CX1 P w) k f fd ps sp/\Binds K fd ps []/\Meth K C m f
section
variable{P:Program}{w:World}{K:FG}{mg:Str->Option Value}{base:Heap}{m qual:Str}{st:Stmt}{ps N:List Str}{k:Nat}{sp:Sp}{C:Addr}
theorem FnM.dfs1(F:FnM K C m qual st ps)(S':FnScope N ps (aaC st))(len:∀vs H Q E,sp vs H Q E->vs.length=ps.length)
  (hbody:∀(f:Addr) (cdv:Value) (A:Around) (outer:List Env) (s:Shared) (H:Hp) (vs:List V) (Q:VK) (E:XK),Room k (A.deeper (envOfC qual (aaC st) s.heap.objs.size f cdv))->sp vs H Q E->
   ∃t,Ss (adI (CX1 P w) P w K mg base N qual (aaC st) f cdv A outer s H E) (aa4 st) t/\t {nx:=fun _ H'=>Q .non H',rt:=Q} (start N vs) H):DfM1 P w K mg base C m (k+1) ps sp:=by
 obtain⟨f,fd,F1,hb,hm⟩:=F.ex
 obtain⟨oc,od,kV,doc,pm,an,cdv,ct,osl,rfl,lk,hcd⟩:=F1.ex
 refine⟨⟨f,_,au9 lk hcd S' len fun A outer s H vs Q E hr hsp=>?_,hb,hm⟩⟩
 obtain⟨t,h,q⟩:=hbody f cdv A outer s H vs Q E hr hsp
 exact⟨t,h.h,q⟩
end
section
variable{X:Cx}{x:Str}{C:Addr}{k k':Nat}{ps:List Str}{sp:Sp}{e:Expr}{es:List Expr}{t:TA}{p pos:Pos}{E:XK}
theorem aa5(c:Cd X.K X.mg x C)(D:DfM1 X.prog X.w X.K X.mg X.base C "__init__" k ps sp)(hr:Room k' X.A)(hp:acH (CX1 X.prog X.w) X E)(ha:As X (e::es) t)(hk:k+1<=k':=by decide)(hg:Gl X x:=by rfl)(hdb:(x==("__debug__":Str))=false:=by decide)
  (he:starEach (e::es) X.env=(false,eval e X.env)::starEach es X.env:=by rfl) (hpl:(backTo pos (starEach es X.env)).any (·.1)=false:=by rfl):L2.E X (.Call (.Name x p) (e::es) [] pos) (asK C sp [] E t):=by
 obtain⟨f,fd,F,hb,hm⟩:=D.ex
 exact⟨avL ⟨c.makes,hm.at_,hm.fn,c.kp⟩ F (hr.mono hk) hg c.at_ hb .nil hp ha.h hdb he hpl⟩
end
end L2
namespace L2
open PySem PySem.Spec PyProof.Rows PySem.SeqAt
theorem aO0{X:Cx}(hc:X.calm=true:=by rfl):Cl1 X (.builtin "max") (fun xs H Q=>∃(p:Addr) (is:List Int),xs=[.ref p]/\SqL X.K H p (is.map V.int)/\0<is.length/\∀M∈is,(∀a∈is,a<=M)->Q (.int M) H):=by
 refine⟨fun pins s σ H xs us Q I r h=>?_⟩
 obtain⟨p,is,rfl,hq,hpos,q⟩:=h
 obtain⟨u,rfl,r1⟩:=acK r
 cases r1
 obtain⟨its,rv,pl,_⟩:=I.list hq
 have hi:=abW rv
 obtain⟨ys,hy⟩:=hi.allInts.items
 have ei:is=ys.toList.map (·.1):=by
  rw[←nums_intItems,←hy]
  exact hi.numsOf.symm
 have ln:is.length=ys.size:=by rw[ei,aU,dC]
 have best:=argBest_gt (numAt ys) (ys.size-1)
 refine max_intList (I.ok.hd hc) (by rw[←hy];exact pl.isList) (by omega) fun v h' tk hv hk=>?_
 obtain⟨t,rfl⟩:=intItems_at hv
 refine⟨.int _,H,I.kept hk,⟨_,rfl⟩,q _ ?_ fun a ha=>?_⟩
 ·rw[numAt_eq,←ei]
  exact getD_mem (by have:=best.1;omega)
 ·rw[ei] at ha
  obtain⟨j,hj,rfl⟩:=mem_getD ha
  rw[←ei] at hj
  rw[←numAt_eq]
  exact best.2 j (by omega)
section
variable{X:Cx}{m:Str}{C:Addr}{k:Nat}{ps:List Str}{sp:Sp}{o:Expr}{ta:TE}{pos apos:Pos}
theorem eDr{x:Str}{e:Expr}{es:List Expr}{tA:TA}{p pos:Pos}(D:Df X.prog X.w X.K X.mg X.base x k ps sp)(hr:Room k X.A)(ha:As X (e::es) tA)(hg:Gl X x:=by rfl)
  (hdb:(x==("__debug__":Str))=false:=by decide) (he:starEach (e::es) X.env=(false,eval e X.env)::starEach es X.env:=by rfl) (hpl:(backTo pos (starEach es X.env)).any (·.1)=false:=by rfl):
  E X (.Call (.Name x p) (e::es) [] pos) (ai2 sp [] E0 tA):=eD D hr ha (aV _) hg hdb he hpl
theorem abQ{pl:Sem Bool}(c:Cls X.K C)(D:DfM X.prog X.w X.K X.mg X.base C m k ps sp)(hr:Room k X.A)(ho:E X o ta)
  (ht:eval (.Call (.Attribute o m apos) [] [] pos) X.env=(do
   let ov ←eval o X.env
   standAt apos.atName
   let (f,first) ←holding [ov] (getMethod ov m pl)
   callWith pos f first (backTo pos (starEach [] X.env)) (backToKw pos (keywordEach [] X.env))):=by rfl):E X (.Call (.Attribute o m apos) [] [] pos) (aqN C m sp [] E0 ta adJ):=
 aEY c D hr ho (aV _) ht
end
section
variable{X:Cx}
theorem E.as{e:Expr}{t u:TE}(h:E X e t)(w:∀σ H Q,u σ H Q->t σ H Q):E X e u:=⟨fun pins s σ H Q I z=>h.h pins s σ H Q I (w σ H Q z)⟩
theorem eD0{x:Str}{k k':Nat}{sp:Sp}{p pos:Pos}(D:Df X.prog X.w X.K X.mg X.base x k [] sp)(hr:Room k' X.A)(hk:k<=k':=by decide)(hg:Gl X x:=by rfl)
  (hdb:(x==("__debug__":Str))=false:=by decide):E X (.Call (.Name x p) [] [] pos) (ai2 sp [] E0 adJ):=by
 obtain⟨f,fd,F,hb,hm,kp⟩:=D.ex
 exact⟨aw2 F (hr.mono hk) hg hm kp hb .nil alM hdb⟩
end
theorem len0{us:List Value}(h:us.length=0):us=[]:=dI h
theorem avD{K:FG}{H H':Hp}{v:V}{t:Value}(s:Same H H')(h:TyOf K H v t):TyOf K H' v t:=by
 cases h with
 |non=>exact .non
 |bl x=>exact .bl x
 |int i=>exact .int i
 |str x=>exact .str x
 |flt x=>exact .flt x
 |lst e=>exact .lst (s _ _ e)
 |frz e=>exact .frz (s _ _ e)
 |tup e=>exact .tup (s _ _ e)
 |dK e=>exact .dK (s _ _ e)
 |dT e=>exact .dT (s _ _ e)
 |ins e c a n k m=>exact .ins (s _ _ e) c a n k m
noncomputable def IsB(K:FG)(C:Addr)(H:Hp)(v:V)(b:Bool):Prop:=∃t,TyOf K H v t/\PySem.W.kitOne K t (.ref C)=some b
theorem IsB.keep{K:FG}{C:Addr}{H H':Hp}{v:V}{b:Bool}(h:IsB K C H v b)(s:Same H H'):IsB K C H' v b:=by
 obtain⟨t,h1,h2⟩:=h
 exact⟨t,avD s h1,h2⟩
noncomputable def BF(K:FG)(B C:Addr)(b:Bool):Prop:=IsC K C/\Cls K C/\PySem.W.kitOne K (.ref C) (.ref B)=some b
theorem BF.is{K:FG}{B C x dx:Addr}{b:Bool}{H:Hp}{fs:List (Str×V)}(f:BF K B C b)(h:H x=some (.ins C dx fs)):IsB K B H (.ref x) b:=⟨_,f.1.ty f.2.1 h,f.2.2⟩
theorem amW{H1 H':Hp}{x dx:Addr}{a b:HO}(nx:H1 x=none)(ndx:H1 dx=none)(hs:∀b' o,upd (upd H1 dx a) x b b'=some o->b'≠x->H' b'=some o):Same H1 H':=fun b' o hb=>
 hs b' o (ab0 nx ndx _ _ hb) fun e=>by rw[e,nx] at hb;cases hb
theorem asP{α:Type}{R:α->Bool->Prop}:∀{us:List α},(∀v∈us,∃b,R v b)->∃bs,Paired R us bs
 |[],_=>⟨[],.nil⟩
 |v::us,h=>by
  obtain⟨b,hb⟩:=h v (bO ..)
  obtain⟨bs,hbs⟩:=asP fun u hu=>h u (bF _ hu)
  exact⟨b::bs,.cons hb hbs⟩
theorem ar5{α:Type}{R:α->Bool->Prop}:∀{us:List α},(∀v∈us,∃b,R v b)->(∃v∈us,R v false)->∃bs,Paired R us bs/\bs.all id=false
 |[],_,⟨_,h,_⟩=>nomatch h
 |v::us,h,⟨u,hu,hf⟩=>by
  rcases aX.mp hu with rfl | hu'
  ·obtain⟨bs,hbs⟩:=asP fun z hz=>h z (bF _ hz)
   exact⟨false::bs,.cons hf hbs,rfl⟩
  ·obtain⟨b,hb⟩:=h v (bO ..)
   obtain⟨bs,hbs,e⟩:=ar5 (fun z hz=>h z (bF _ hz)) ⟨u,hu',hf⟩
   refine⟨b::bs,.cons hb hbs,?_⟩
   show (b&&bs.all id)=false
   rw[e,Bool.and_false]
theorem aoK{α:Type}{R:α->Bool->Prop}:∀{us:List α},(∀v∈us,R v true)->∃bs,Paired R us bs/\bs.all id=true
 |[],_=>⟨[],.nil,rfl⟩
 |v::us,h=>by
  obtain⟨bs,hbs,e⟩:=aoK fun u hu=>h u (bF _ hu)
  exact⟨true::bs,.cons (h v (bO ..)) hbs,e⟩
theorem alV{α β:Type}{F:α->β->Prop}:∀{l:List α} {r:List β},Paired F l r->∀v∈l,∃b,F v b
 |_,_,.nil,v,h=>nomatch h
 |_,_,.cons f t,v,h=>(aX.mp h).elim (fun e=>by rw[e];exact⟨_,f⟩) fun z=>alV t v z
theorem abL{α β:Type}{F:α->β->Prop}:∀{l:List α} {r:List β},Paired F l r->∀c∈r,∃u∈l,F u c
 |_,_,.nil,v,h=>nomatch h
 |_,_,.cons f t,v,h=>(aX.mp h).elim (fun e=>by rw[e];exact⟨_,bO ..,f⟩) fun z=>let ⟨u,hu,hf⟩:=abL t v z;⟨u,bF _ hu,hf⟩
theorem asY:∀{is:List Int},(∀i∈is,0<=i)->0<=is.sum
 |[],_=>a8 0
 |i::is,h=>by
  rw[List.sum_cons]
  have:=h i (bO ..)
  have:=asY fun j hj=>h j (bF _ hj)
  omega
theorem cInc{X:Cx}{K:FG}(hK:X.K=K:=by rfl):Cl1 X (.builtin "isinstance") (fun xs H Q=>∃(v:V) (t:Value) (C':Addr) (b:Bool),xs=[v,.ref C']/\TyOf K H v t/\PySem.W.kitOne K t (.ref C')=some b/\Q (.bl b) H):=hK▸cIn
noncomputable def tCut(t u:TS):TS:=fun D σ H=>∃I:St->Hp->Prop,t {D with nx:=I} σ H/\∀σ' H',I σ' H'->u D σ' H'
theorem ssK{X:Cx}{st:Stmt}{rest:List Stmt}{t u:TS}(h1:S X st t)(h2:Ss X rest u):Ss X (st::rest) (tCut t u):=by
 refine⟨fun pins s σ H D I h=>?_⟩
 obtain⟨J,h,hJ⟩:=h
 refine wpAny_execs_cons (thn (h1.h pins s σ H {D with nx:=J} I h) fun f s1 q=>?_)
 cases f with
 |next=>
  obtain⟨σ',H',I',q⟩:=q
  exact h2.h pins s1 σ' H' D I' (hJ _ _ q)
 |ret v=>exact q
 |brk=>exact q
 |cont=>exact q
noncomputable def Itz(K:FG)(a b:Addr):It:=
 ⟨fun i H=>∃xs ys x y,SqL K H a xs/\SqL K H b ys/\xs[i]? =some x/\ys[i]? =some y,fun i H v H'=>∃T,v=.ref T/\H T=none/\∀xs ys,SqL K H a xs->SqL K H b ys->∃x y,xs[i]? =some x/\ys[i]? =some y/\H'=upd H T (.tup [x,y]),
  fun i H=>∃xs ys,SqL K H a xs/\SqL K H b ys/\(xs.length=i∨ys.length=i)⟩
theorem axC{P:Program}{w:World}{K:FG}{es:List Expr}{kk:Nat}{pos:Pos}(a b z TI TO i1 i2:Addr)(n:Nat)(ez:z=n+4)(eI:TI=n+2)(eO:TO=n+3)(e1:i1=n)(e2:i2=n+1):
  Turn P w K (.Tuple es kk pos) (Itz K a b) [z,TI,TO,i1,i2] z (fun i h=>IsZip h z TI TO .none/\IsPair h TI (.ref i1) (.ref i2)/\(∃x y,IsPair h TO x y)/\h.IsListIter i1 a i/\h.IsListIter i2 b i/\a<n/\b<n) where
 mem:=by simp
 obj:=fun i h st c hc=>by
  obtain⟨hz,hI,⟨x,y,hO⟩,⟨o1,q1,_,d1⟩,⟨o2,q2,_,d2⟩,_⟩:=st
  simp only[aX,bV,or_false] at hc
  rcases hc with rfl | rfl | rfl | rfl | rfl
  ·exact⟨_,hz,fun v q=>by have q':Data.fields _=Data.cell v:=q;cases q'⟩
  ·exact⟨_,hI,fun v q=>by have q':Data.seq _ _=Data.cell v:=q;cases q'⟩
  ·exact⟨_,hO,fun v q=>by have q':Data.seq _ _=Data.cell v:=q;cases q'⟩
  ·exact⟨o1,q1,fun v q=>by rw[d1] at q;cases q⟩
  ·exact⟨o2,q2,fun v q=>by rw[d2] at q;cases q⟩
 keep:=fun i h h' st k=>by
  obtain⟨hz,hI,⟨x,y,hO⟩,h1,h2,la,lb⟩:=st
  exact⟨k _ (by simp) _ hz,k _ (by simp) _ hI,⟨x,y,k _ (by simp) _ hO⟩,h1.at fun o q=>k _ (by simp) o q,h2.at fun o q=>k _ (by simp) o q,la,lb⟩
 item:=by
  intro X hP hw hK hc i pins s σ H E I hf st hg
  subst hP hw hK
  obtain⟨xs,ys,x,y,hq,hr,hx,hy⟩:=hg
  obtain⟨hz,hI,⟨x0,y0,hO⟩,h1,h2,la,lb⟩:=st
  obtain⟨its,rv,p,_⟩:=I.list hq
  obtain⟨its',rv',p',_⟩:=I.list hr
  obtain⟨u,hu,ru⟩:=rv.get hx
  obtain⟨u',hu',ru'⟩:=rv'.get hy
  have D:ZipApart z TI TO i1 i2 a b:=by subst ez eI eO e1 e2;exact zipApart_new la lb
  refine wpAny_pyNext_zip_item D hz hI hO h1 h2 p.isList p'.isList (x:=u) (y:=u') (by simpa using hu) (by simpa using hu') fun g ho hO1 hj1 hj2 hT hsz hk=>?_
  refine⟨_,rfl,wpAny_letOwnedTupleGo_zip ho fun g2 hz2 sb=>?_⟩
  have lz:z<s.heap.objs.size:=aY hz
  have k2:∀c oc,c∉[z,TI,TO,i1,i2]->s.heap.get? c=some oc->g2.get? c=some oc:=fun c oc hc q=>by
   simp only[aX,bV,or_false,not_or] at hc
   exact (sb.2 c hc.1).trans (hk c oc hc.1 hc.2.2.1 hc.2.2.2.1 hc.2.2.2.2 q)
  have hTz:s.heap.objs.size≠z:=cF lz
  have hT2:g2.get? s.heap.objs.size=some {cls:=.type "tuple",data:=.seq #[u,u']}:=(sb.2 _ hTz).trans hT
  have hn:=I.hok.fresh (aV s.heap.objs.size)
  have I2:Inv X pins σ (upd H s.heap.objs.size (.tup [x,y])) {s with heap:=g2,toks:=s.toks}:=I.turnT k2 hf (aV _) ⟨by show 2<=sizeLine;decide,[u,u'],.cons ru (.cons ru' .nil),⟨_,hT2,rfl,_,rfl⟩⟩
  refine⟨.ref s.heap.objs.size,_,I2,rfl,⟨s.heap.objs.size,rfl,hn,fun xs' ys' e e'=>⟨x,y,by rw[I.list_inj e hq];exact hx,by rw[I.list_inj e' hr];exact hy,rfl⟩⟩,⟨hz2,?_,⟨_,_,(sb.2 _ D.TOz).trans hO1⟩,hj1.at fun o q=>(sb.2 _ D.i1z).trans q,hj2.at fun o q=>(sb.2 _ D.i2z).trans q,la,lb⟩,fun c hc=>?_⟩
  ·exact (sb.2 _ D.TIz).trans (hk _ _ D.TIz D.TITO D.TIi1 D.TIi2 hI)
  have hclt:c<s.heap.objs.size:=by
   have m1:=aY hI
   have m2:=aY hO
   obtain⟨_,q1,_⟩:=h1
   obtain⟨_,q2,_⟩:=h2
   simp only[aX,bV,or_false] at hc
   rcases hc with rfl | rfl | rfl | rfl | rfl
   ·exact lz
   ·exact m1
   ·exact m2
   ·exact aY q1
   ·exact aY q2
  rw[aaE (bD hclt)]
  exact (hf c hc).1
 done:=by
  intro X hP hw hK hc i pins s σ H E I hf st hg
  subst hP hw hK
  obtain⟨xs,ys,hq,hr,hx⟩:=hg
  obtain⟨hz,hI,⟨x0,y0,hO⟩,h1,h2,la,lb⟩:=st
  obtain⟨its,rv,p,_⟩:=I.list hq
  obtain⟨its',rv',p',_⟩:=I.list hr
  have l1:=rv.length
  have l2:=rv'.length
  have D:ZipApart z TI TO i1 i2 a b:=by subst ez eI eO e1 e2;exact zipApart_new la lb
  refine wpAny_pyNext_zip_end (I.ok.hd hc) D hz hI hO h1 h2 p.isList p'.isList (hx.imp (fun e=>by simp;omega) fun e=>by simp;omega) fun h' hk=>⟨rfl,?_⟩
  exact I.turnN (ch:=[z,TI,TO,i1,i2]) (t':=s.toks) (fun c oc hc q=>by
   simp only[aX,bV,or_false,not_or] at hc
   exact hk c oc hc.1 hc.2.2.1 hc.2.2.2.1 hc.2.2.2.2 q) hf
 self:=fun _ _ _ _ _ st h=>wpAny_pyIter_zip st.1 h
section
variable{X:Cx}{es:List Expr}{kk:Nat}{tpos:Pos}
noncomputable def iZp(K:FG)(tl tr:TE):TI:=fun σ H R=>tl σ H fun x H1=>tr σ H1 fun y H2=>∃a b,x=.ref a/\y=.ref b/\(∃xs,SqL K H2 a xs)/\(∃ys,SqL K H2 b ys)/\R (Itz K a b) H2
theorem iZ{l r:Expr}{tl tr:TE}{p pos:Pos}(hm:X.mg "zip"=none)(hl:E X l tl)(hr:E X r tr)(hg:Gl X "zip":=by rfl)(hs:starEach [l,r] X.env=[(false,eval l X.env),(false,eval r X.env)]:=by rfl)(hs2:starEach [r] X.env=[(false,eval r X.env)]:=by rfl):
  Il X (.Tuple es kk tpos) (.Call (.Name "zip" p) [l,r] [] pos) (iZp X.K tl tr):=by
 refine⟨fun pins s σ H R I h=>?_⟩
 have hA:PA X [l,r] (ac0 tl (ac0 tr adJ)):=acB hl.h (acB hr.h ac7 hs2) (by rw[hs,hs2])
 refine Call_ (aeQ I hg hm boot_zip (PyProof.Rows.callWith_type1 (thn (hA pos pins s σ H (fun vs H1=>match vs with | [x,y]=>∃a b,x=.ref a/\y=.ref b/\(∃xs,SqL X.K H1 a xs)/\(∃ys,SqL X.K H1 b ys)/\R (Itz X.K a b) H1 | _=>False) I ?_) fun us s1 ⟨vs,H1,I1,r1,q1⟩=>?_) (by rw[hs,hs2]) (by rw[hs2];rfl)))
 ·exact h
 match vs,q1,r1 with
 |[x,y],q1,r1=>?_
 obtain⟨a,b,rfl,rfl,⟨xs,hq⟩,⟨ys,hq'⟩,q⟩:=q1
 obtain⟨u,u',rfl,rx,ry⟩:=aw5 r1
 cases rx
 cases ry
 obtain⟨its,rv,pl,hz⟩:=I1.list hq
 obtain⟨its',rv',pl',hz'⟩:=I1.list hq'
 have la:a<s1.heap.objs.size:=by obtain⟨o,q,_⟩:=pl.isList;exact aY q
 have lb:b<s1.heap.objs.size:=by obtain⟨o,q,_⟩:=pl'.isList;exact aY q
 refine call_zip_2 pl.isList pl'.isList fun h' hzp hI hO hi1 hi2 hsz hk=>?_
 refine wpAny_pyIter_zip hzp ?_
 have I2:Inv X pins σ H1 {s1 with heap:=h'}:=I1.kept (t':=s1.toks) hk
 refine⟨_,_,_,_,H1,rfl,I2,axC a b _ _ _ _ _ s1.heap.objs.size rfl rfl rfl rfl rfl,⟨hzp,hI,⟨_,_,hO⟩,hi1,hi2,la,lb⟩,fun c hc=>?_,q⟩
 have hb2:s1.heap.objs.size<=c:=by
  simp only[aX,bV,or_false] at hc
  rcases hc with rfl | rfl | rfl | rfl | rfl
  ·exact c8 _ _
  ·exact c8 _ _
  ·exact c8 _ _
  ·exact aV _
  ·exact c8 _ _
 exact I1.fpOk hb2 (I1.hok.fresh hb2)
end
section
variable{js:List Nat}{σ:St}{tt:TT}{te:TE}{Q:VK}{H1:Hp}
theorem amL{K K':FG}{a b:Addr}{xs ys:List V}(R:Nat->List V->Prop)(hn:xs.length<=sizeLine)(he:ys.length=xs.length)(h0:R 0 [])(hq:SqL K H1 a xs)(hq':SqL K H1 b ys)
  (hs:∀(i:Nat) (x y:V) (l:List V) (D:Addr) (H2:Hp) (E:V->Hp->Prop) (F:Hp->Prop),xs[i]? =some x->ys[i]? =some y->R i l->H1 D=none->Same H1 H2->H2 D=some (.lst l)->(∀z H5,Same H2 H5->R (i+1) (l++[z])->E z H5)->(∀H4,Same H2 H4->R (i+1) l->F H4)->
   tt (some x::some y::aa3 js σ) H2 fun b H4=>if b=true then te (some x::some y::aa3 js σ) H4 E else F H4)
  (hd:∀(D:Addr) (H2:Hp) (l:List V),R xs.length l->H1 D=none->Same H1 H2->H2 D=some (.lst l)->Q (.ref D) H2):
  atA (Itz K a b) 2 js (ayR K' 2 (aoE (ad5 0) (aoE (ad5 1) aAB))) σ tt te Q H1:=by
 intro D hD
 refine⟨fun i m H2=>m=xs.length-i/\i<=xs.length/\Same H1 H2/\∃l,H2 D=some (.lst l)/\l.length<=i/\R i l,⟨xs.length,by simp,bM _,aaB hD _,[],aaA,aV _,h0⟩,?_⟩
 rintro i m H2 ⟨rfl,hi,s2,l,h2,hll,hR⟩
 by_cases hlt:i<xs.length
 ·refine .inr ⟨⟨xs,ys,xs[i],ys[i],s2.seq hq,s2.seq hq',by simp[hlt],by simp[he,hlt]⟩,fun v H3 yl τ hτ=>?_⟩
  obtain⟨T,rfl,hT,ev⟩:=yl
  obtain⟨x,y,hx,hy,rfl⟩:=ev xs ys (s2.seq hq) (s2.seq hq')
  have sT:=aaB hT (.tup [x,y])
  have s3:=s2.trans sT
  have h3:=sT _ _ h2
  obtain⟨t0,t1,rfl⟩:∃t0 t1,τ=[t0,t1]:=by
   match τ,hτ with
   |[a,b],_=>exact⟨a,b,rfl⟩
  refine⟨T,[x,y],rfl,SqT.of aaA,rfl,x,[y],rfl,y,[],rfl,rfl,⟨[some x,some y],rfl,rfl⟩,?_⟩
  refine hs i x y l D _ _ _ hx hy hR hD s3 h3 (fun z H5 s5 r5=>?_) (fun H4 s4 r4=>?_)
  ·refine⟨l,s5 _ _ h3,cN hll (a9 hlt hn),xs.length-(i+1),by omega,rfl,hlt,fun b o hb=>?_,l++[z],aaA,by rw[aW,b8];omega,r5⟩
   rw[aaE (aaN hb hD)]
   exact s5 _ _ (s3 _ _ hb)
  ·exact⟨xs.length-(i+1),by omega,rfl,hlt,s3.trans s4,l,s4 _ _ h3,by omega,r4⟩
 ·have e:i=xs.length:=by omega
  subst e
  exact .inl ⟨⟨xs,ys,s2.seq hq,s2.seq hq',.inl rfl⟩,hd D H2 l hR hD s2 h2⟩
end
theorem aMP{prog:Program}{w:World}{A:Around}{E:Value->Shared->Prop}{s:Shared}{p q sl:Addr}{its jts:List Value}{n m:Nat}{oq:Obj}{vl vu:Value}{lo hi:Option Int}{Q:Unit->Shared->Prop}(ep:s.heap.get? p=some {cls:=.type "list",data:=.seq its.toArray n})
  (eq_:s.heap.get? q=some oq) (cq:oq.cls=.type "list") (dq:oq.data=.seq jts.toArray m) (ne:p≠q) (es:s.heap.IsSliceOf sl vl vu .none) (pl:IsPart vl lo) (pu:IsPart vu hi) (hz:its.length+jts.length<=sizeLine)
  (h:Q () {s with heap:=s.heap.update p (Obj.mapSeq fun xs=>xs.extract 0 (HT.sIx its.length 0 lo)++jts.toArray++xs.extract (max (HT.sIx its.length 0 lo) (HT.sIx its.length its.length hi)) xs.size)}):
  wpAny (model prog w) A (setItem (.ref p) (.ref sl) (.ref q)) Q E s:=by
 have tp:s.TypeIs (.ref p) "list":=⟨_,ep,rfl⟩
 have tq:s.TypeIs (.ref q) "list":=⟨_,eq_,cq⟩
 obtain⟨os,e1,c1,d1⟩:=es
 have ts:s.TypeIs (.ref sl) "slice":=⟨os,e1,c1⟩
 obtain⟨b1,b2,b3⟩:=agY lo hi its.toArray.size
 unfold setItem
 refine dZ (dW (wpAny_sequenceKey tp (by decide) ?_))
 refine dW (wpAny_callSpecial?_slot (name:=Str.ofString "__setitem__") tp slot_list_setitem (wpAny_call_entry slot_list_setitem tp entry_list_setitem ?_ (args_list_setitem _ _ _)))
 show wpAny _ _ (Builtin.List.listSubscript? (.ref sl) >>=_) _ _ s
 refine dW ?_
 unfold Builtin.List.listSubscript?
 refine dW (wpAny_specialOf ts slice_no_index ?_)
 rw[if_pos (show (none:Option Value).isNone=true from rfl)]
 refine eC ?_
 show wpAny _ _ (typeOf (.ref sl) >>=_) _ _ s
 refine dW (wpAny_typeOf ts ?_)
 rw[if_neg (by decide),listSliceParts_eq]
 refine dW (dW (wpAny_field e1 d1 (x:=.none) rfl (dW (wpAny_listPart .none ?_))))
 rw[if_neg (show ¬((rawPart none==rawInt 0)=true) from bC)]
 refine dW (wpAny_field e1 d1 (x:=vl) rfl (dW (wpAny_listPart pl (dW (wpAny_field e1 d1 (x:=vu) rfl (dW (wpAny_listPart pu (eC ?_))))))))
 have nr:Builtin.List.listSameRef (.ref p) (.ref q)=false:=beq_eq_false_iff_ne.mpr ne
 rw[nr]
 refine dW (m:=Builtin.List.listAllItems (.ref q) _) ?_
 unfold Builtin.List.listAllItems
 refine dW (wpAny_typeOf tq ?_)
 rw[if_pos (by decide)]
 unfold Builtin.List.listItems
 refine dW (wpAny_seqItems eq_ dq (eC ?_))
 refine dW (dW (wpAny_seqItems ep rfl (eC ?_)))
 refine dW (wpAny_of_eq (sliceIndices_raw lo hi none its.toArray.size (by simp)) ?_)
 obtain⟨c1,c2,c3,ec⟩:∃c1 c2 c3,sliceBounds lo hi none its.toArray.size=(c1,c2,c3):=⟨_,_,_,rfl⟩
 rw[ec] at b1 b2 b3 ⊢
 obtain rfl:c1=((HT.sIx its.toArray.size 0 lo:Nat):Int):=b1
 obtain rfl:c2=((HT.sIx its.toArray.size its.toArray.size hi:Nat):Int):=b2
 obtain rfl:c3=1:=b3
 show wpAny _ _ (if ((1:Int)==1)=true then _ else _) _ _ s
 rw[if_pos (by decide)]
 refine dW (wpAny_rule ?_)
 show wpAny _ _ (if Builtin.List.listTooLong (its.toArray.size+jts.toArray.size)=true then _ else _) _ _ s
 rw[if_neg (by unfold Builtin.List.listTooLong;simp;omega)]
 refine dW (m:=Builtin.List.listUpdate (.ref p) _) (wpAny_updateSeq ep rfl ?_ (by simp;omega) (by simp;omega))
 refine dW (wpAny_letGo (eC ⟨_,rfl,eC ?_⟩))
 have ef:(fun xs:Array Value=>xs.extract 0 (((HT.sIx its.toArray.size 0 lo:Nat):Int)).toNat++jts.toArray++xs.extract (max ((HT.sIx its.toArray.size 0 lo:Nat):Int) ((HT.sIx its.toArray.size its.toArray.size hi:Nat):Int)).toNat)=fun xs=>xs.extract 0 (HT.sIx its.length 0 lo)++jts.toArray++xs.extract (max (HT.sIx its.length 0 lo) (HT.sIx its.length its.length hi)) xs.size:=by
  funext xs
  rw[bG,bP,show (max ((HT.sIx its.length 0 lo:Nat):Int) ((HT.sIx its.length its.length hi:Nat):Int)).toNat=max (HT.sIx its.length 0 lo) (HT.sIx its.length its.length hi) by omega]
 rw[ef]
 exact h
theorem auA(its jts:List Value)(n a b:Nat):∃n',Obj.mapSeq (fun xs=>xs.extract 0 a++jts.toArray++xs.extract b xs.size) {cls:=.type "list",data:=.seq its.toArray n}={cls:=.type "list",data:=.seq (its.take a++jts++its.drop b).toArray n'}:=by
 have e:its.toArray.extract 0 a++jts.toArray++its.toArray.extract b its.toArray.size=(its.take a++jts++its.drop b).toArray:=by
  apply Array.toList_inj.mp
  simp[dP]
 unfold Obj.mapSeq
 dsimp only
 rw[e]
 exact⟨_,rfl⟩
noncomputable def auH(xs ys:List V)(lo hi:Option Int):List V:=xs.take (HT.sIx xs.length 0 lo)++ys++xs.drop (max (HT.sIx xs.length 0 lo) (HT.sIx xs.length xs.length hi))
noncomputable def gSls(K:FG)(to:TE)(tl th:TO):TG:=fun v σ H Q=>to σ H fun o H1=>tl σ H1 fun l H2=>th σ H2 fun u H3=>∃(p q:Addr) (xs ys:List V),o=.ref p/\v=.ref q/\p≠q/\H3 p=some (.lst xs)/\SqL K H3 q ys/\xs.length+ys.length<=sizeLine/\Q σ (upd H3 p (.lst (auH xs ys l u)))
theorem gSl{X:Cx}{o:Expr}{lo hi:Option Expr}{to:TE}{tl th:TO}{p2 pos:Pos}(ho:E X o to)(hl:Po X lo tl)(hu:Po X hi th):Gt X (.Subscript o (.Slice lo hi none p2) pos) (gSls X.K to tl th):=by
 refine⟨fun pins s σ H v u Q I r h=>?_⟩
 show wpAny _ _ (do
   let ov ←holding [u] (eval o X.env)
   let iv ←holding [u,ov] (eval (.Slice lo hi none p2) X.env)
   standAt pos
   holding [u,ov,iv] (setItem ov iv u)
   release [iv,u,ov] []) _ _ s
 refine dW (dZ (thn (ho.h pins s σ H _ I h) fun ov s1 ⟨x,H1,I1,r1,q1⟩=>?_))
 refine dW (dZ (wpAny_Slice (thn (hl.h pins s1 σ H1 _ I1 q1) fun vl s2 ⟨l,H2,I2,pl,q2⟩=>thn (hu.h pins s2 σ H2 _ I2 q2) fun vu s3 ⟨u',H3,I3,pu,q3⟩=>?_)))
 rw[evalPart_none]
 refine eC ?_
 have I4:Inv X pins σ H3 {s3 with heap:=s3.heap.push {cls:=.type "slice",data:=.fields #[vl,vu,.none]} }:=I3.kept (t':=s3.toks) fun b ob q=>bB _ q
 obtain⟨p,q,xs,ys,rfl,rfl,ne,hp,hq,hz,qq⟩:=q3
 cases r1
 cases r
 obtain⟨its,n,rv,ep,_⟩:=I4.lst hp
 obtain⟨jts,rv',pl',_⟩:=I4.list hq
 obtain⟨oq,eq_,cq,m,dq⟩:=pl'.isList
 have e1:=rv.length
 have e2:=rv'.length
 refine dW (dR (dW (dZ (aMP ep eq_ cq dq ne (Heap.IsSliceOf.new ..) pl pu (by omega) (wpAny_release ?_)))))
 obtain⟨n',en⟩:=auA its jts n (HT.sIx its.length 0 l) (max (HT.sIx its.length 0 l) (HT.sIx its.length its.length u'))
 refine⟨σ,_,I4.lstUpd hp ep en (ys:=auH xs ys l u') ?_ ?_ _,qq⟩
 ·unfold auH
  rw[e1]
  exact ((rv.take _).append rv').append (rv.drop _)
 ·unfold auH
  rw[aW,aW,cW,List.length_drop]
  omega
theorem eFlc{X:Cx}{K:FG}{e:Expr}{f:Str}{ta:TE}{pos:Pos}(he:E X e ta)(hK:X.K=K:=by rfl)(hb:attributeBase e f X.env (eval e X.env)=eval e X.env:=by rfl):E X (.Attribute e f pos) (aBI K ta f):=hK▸eFl he hb
section
variable{js:List Nat}{σ:St}{tt:TT}{te:TE}{Q:VK}{H1:Hp}
theorem alR{K:FG}{a:Addr}{xs:List V}(R:Addr->Nat->List V->Hp->Prop)(hm:∀D i l H l0 l',H D=some (.lst l0)->H1 D=none->R D i l H->R D i l (upd H D (.lst l')))(hn:xs.length<=sizeLine)(h0:∀D,H1 D=none->R D 0 [] (upd H1 D (.lst [])))(hq:SqL K H1 a xs)
  (hs:∀(i:Nat) (v:V) (l:List V) (D:Addr) (H2:Hp) (E:V->Hp->Prop) (F:Hp->Prop),xs[i]? =some v->R D i l H2->H1 D=none->Same H1 H2->H2 D=some (.lst l)->(∀y H5,Same H2 H5->R D (i+1) (l++[y]) H5->E y H5)->(∀H4,Same H2 H4->R D (i+1) l H4->F H4)->
   tt (some v::aa3 js σ) H2 fun b H4=>if b=true then te (some v::aa3 js σ) H4 E else F H4)
  (hd:∀(D:Addr) (H2:Hp) (l:List V),R D xs.length l H2->H1 D=none->Same H1 H2->H2 D=some (.lst l)->Q (.ref D) H2):ak4 (Itl K a) js σ tt te Q H1:=by
 intro D hD
 refine⟨fun i m H2=>m=xs.length-i/\i<=xs.length/\Same H1 H2/\∃l,H2 D=some (.lst l)/\l.length<=i/\R D i l H2,⟨xs.length,by simp,bM _,aaB hD _,[],aaA,aV _,h0 D hD⟩,?_⟩
 rintro i m H2 ⟨rfl,hi,s2,l,h2,hll,hR⟩
 by_cases hlt:i<xs.length
 ·refine .inr ⟨⟨xs,xs[i],s2.seq hq,by simp[hlt]⟩,fun v H3 y=>?_⟩
  obtain⟨e,ev⟩:=y
  subst e
  refine hs i v l D _ _ _ (ev xs (s2.seq hq)) hR hD s2 h2 (fun z H5 s5 r5=>?_) (fun H4 s4 r4=>?_)
  ·refine⟨l,s5 _ _ h2,cN hll (a9 hlt hn),xs.length-(i+1),by omega,rfl,hlt,fun b o hb=>?_,l++[z],aaA,by rw[aW,b8];omega,hm _ _ _ _ _ _ (s5 _ _ h2) hD r5⟩
   rw[aaE (aaN hb hD)]
   exact s5 _ _ (s2 _ _ hb)
  ·exact⟨xs.length-(i+1),by omega,rfl,hlt,s2.trans s4,l,s4 _ _ h2,by omega,r4⟩
 ·have e:i=xs.length:=by omega
  subst e
  exact .inl ⟨⟨xs,s2.seq hq,aV _⟩,hd D H2 l hR hD s2 h2⟩
theorem ae9{lo:Int}{n:Nat}(R:Addr->Nat->List V->Hp->Prop)(hm:∀D i l H l0 l',H D=some (.lst l0)->H1 D=none->R D i l H->R D i l (upd H D (.lst l')))(hn:n<=sizeLine)(h0:∀D,H1 D=none->R D 0 [] (upd H1 D (.lst [])))
  (hs:∀(i:Nat) (l:List V) (D:Addr) (H2:Hp) (E:V->Hp->Prop) (F:Hp->Prop),i<n->R D i l H2->H1 D=none->Same H1 H2->H2 D=some (.lst l)->(∀y H5,Same H2 H5->R D (i+1) (l++[y]) H5->E y H5)->(∀H4,Same H2 H4->R D (i+1) l H4->F H4)->
   tt (some (.int (lo+i))::aa3 js σ) H2 fun b H4=>if b=true then te (some (.int (lo+i))::aa3 js σ) H4 E else F H4)
  (hd:∀(D:Addr) (H2:Hp) (l:List V),R D n l H2->H1 D=none->Same H1 H2->H2 D=some (.lst l)->Q (.ref D) H2):ak4 (Itr lo n) js σ tt te Q H1:=by
 intro D hD
 refine⟨fun i m H2=>m=n-i/\i<=n/\Same H1 H2/\∃l,H2 D=some (.lst l)/\l.length<=i/\R D i l H2,⟨n,by simp,bM _,aaB hD _,[],aaA,aV _,h0 D hD⟩,?_⟩
 rintro i m H2 ⟨rfl,hi,s2,l,h2,hll,hR⟩
 by_cases hlt:i<n
 ·refine .inr ⟨hlt,fun v H3 y=>?_⟩
  obtain⟨e,ev⟩:=y
  subst e ev
  refine hs i l D _ _ _ hlt hR hD s2 h2 (fun z H5 s5 r5=>?_) (fun H4 s4 r4=>?_)
  ·refine⟨l,s5 _ _ h2,cN hll (a9 hlt hn),n-(i+1),by omega,rfl,hlt,fun b o hb=>?_,l++[z],aaA,by rw[aW,b8];omega,hm _ _ _ _ _ _ (s5 _ _ h2) hD r5⟩
   rw[aaE (aaN hb hD)]
   exact s5 _ _ (s2 _ _ hb)
  ·exact⟨n-(i+1),by omega,rfl,hlt,s2.trans s4,l,s4 _ _ h2,by omega,r4⟩
 ·have e:i=n:=by omega
  subst e
  exact .inl ⟨aV _,hd D H2 l hR hD s2 h2⟩
end
noncomputable abbrev aBQ(h:Heap)(l:Addr):Heap:=h.push {cls:=.type "list_iterator",data:=.fields #[.ref l,.int 0 0]}
noncomputable abbrev arP(h:Heap)(l:Addr):Heap:=(aBQ h l).push {cls:=.type "enumerate",data:=.fields #[.none,.bool false,.ref h.objs.size,rawInt 1,.none,.none]}
section
variable{prog:Program}{w:World}{A:Around}{E:Value->Shared->Prop}{s:Shared}
theorem axT(a b:Value):checkTypeCall "enumerate" ⟨[a],[("start",b)]⟩=pure ():=by kernel_rfl
theorem aA8(a b:Value):checkBuiltinCall "enumerate.__new__" ⟨[.type "enumerate",a],[("start",b)]⟩=pure ():=by kernel_rfl
theorem awO(l:Addr)(its:Array Value)(n:Nat)(dd:Option Addr)(sl:Array (Option Value))(t:Tok):Meets (Builtin.«enumerate.__new__» ⟨[.type "enumerate",.ref l],[("start",.int 1 t)]⟩) (fun _ R s=>
   s.heap.get? l=some {cls:=.type "list",dict:=dd,data:=.seq its n,slots:=sl}/\R (.ok (.ret (.ref (aBQ s.heap l).objs.size))) {s with heap:=arP s.heap l}):=.of_wp fun pr wo Ar R s0 hh=>by
  obtain⟨hz,gn,dr,tt,oo⟩:=s0
  obtain⟨h0,h9⟩:=hh
  have hsub:=sub_enumerate
  have h1:Heap.IsList (Shared.heap ⟨hz,gn,dr,tt,oo⟩) l its:=⟨_,h0,rfl,n,rfl⟩
  wp_walk using wpAny_loadPart' h0
  refine wpAny_stack_any fun sk=>eC ?_
  split
  ·rename_i k _ _ _ _ _
   cases (k==Value.type "enumerate")<;>(wp_walk using wpAny_loadPart' h0,wpAny_pyIter_list h1;exact⟨_,rfl,h9⟩)
  ·wp_walk using wpAny_loadPart' h0,wpAny_pyIter_list h1
   exact⟨_,rfl,h9⟩
theorem aw1(a b c:Value):argsOk "object.__init__" ⟨[a,b],[("start",c)]⟩:=by unfold argsOk;kernel_rfl
theorem aC9{self a c:Value}:Meets (Builtin.«object.__init__» ⟨[self,a],[("start",c)]⟩) (fun _ R s=>s.TypeIs self "enumerate"/\R (.ok (.ret .none)) s):=by
 refine Meets.of_wp fun pr wo Ar R s0 hh=>?_
 obtain⟨hT,h9⟩:=hh
 have g1:=F.called_enumerate.init.lookup
 have g2:=F.called_enumerate.made
 repeat (any_goals (first | assumption | wp_step))
 exact⟨_,rfl,h9⟩
theorem axA{l:Addr}{its:Array Value}{t:Tok}{Q:Value->Shared->Prop}(hl:s.heap.IsList l its)
  (h:∀h',IsEnum h' (s.heap.objs.size+1) s.heap.objs.size 1 .none->h'.IsListIter s.heap.objs.size l 0->h'.objs.size=s.heap.objs.size+2->(∀b o,s.heap.get? b=some o->h'.get? b=some o)->Q (.ref (s.heap.objs.size+1)) {s with heap:=h'}):
  wpAny (model prog w) A (call (.type "enumerate") [.ref l] [("start",.int 1 t)]) Q E s:=by
 obtain⟨⟨c,dct,dt,sl⟩,e0,hc,n,hd⟩:=hl
 obtain rfl:c=.type "list":=hc
 obtain rfl:dt=.seq its n:=hd
 have ft:=F.called_enumerate
 obtain⟨c,tl,hmro⟩:=ft.mro
 have f1:=ft.made
 have f2:=ft.sub
 have f3:=ft.notType
 have f4:=ft.canCreate
 have f5:=axT (.ref l) (.int 1 t)
 have zi:(aBQ s.heap l).objs.size=s.heap.objs.size+1:=cR ..
 have zo:(arP s.heap l).objs.size=s.heap.objs.size+2:=by rw[cR,zi]
 have ge:(arP s.heap l).get? (aBQ s.heap l).objs.size=some _:=bL _ rfl
 have gi:(arP s.heap l).get? s.heap.objs.size=some _:=bB _ (bL _ rfl)
 rw[zi] at ge
 refine wpAny_call (codeAny_of_tree ?_)
 show wpAny _ _ (callAny (.type "enumerate") _) _ _ _
 refine eC ⟨Code.quiet_builtin _ (by decide +kernel),codeAny_builtin F.entry_type_call ?_⟩
 rw[Around.under_plain rfl rfl]
 repeat (any_goals (first | assumption | wp_step))
 refine codeAny_mono (codeAny_call_builtin ft.plain F.entry_enumerate_new (wpAny_of_eq (aA8 _ _) (awO l its n dct sl t prog w A.in1 (wants (fun v s1=>v=.ref (s.heap.objs.size+1)/\s1={s with heap:=arP s.heap l}) E) s ⟨e0,by rw[zi],rfl⟩))) fun r s1 hr=>?_
 cases r with
 |error e=>exact hr
 |ok fl=>
  cases fl with
  |ret obj=>
   obtain⟨rfl,rfl⟩:=hr
   have tE:Shared.TypeIs {s with heap:=arP s.heap l} (.ref (s.heap.objs.size+1)) "enumerate":=⟨_,ge,rfl⟩
   have g1:=ft.init.lookup
   have g2:=ft.init.bind (.ref (s.heap.objs.size+1))
   repeat (any_goals (first | assumption | wp_step))
   refine codeAny_mono (codeAny_call_builtin ft.init.plain F.entry_object_init (ft.init.check _ _ _ _ _ _ _ _ tE (aw1 _ _ _) (aC9 prog w A.in1 (wants (fun v s2=>v=.none/\s2={s with heap:=arP s.heap l}) E) _ ⟨tE,rfl,rfl⟩))) fun r2 s2 hr2=>?_
   cases r2 with
   |error e=>exact hr2
   |ok f2=>
    cases f2 with
    |ret r=>
     obtain⟨rfl,rfl⟩:=hr2
     have fin:=h (arP s.heap l) ge ⟨_,gi,rfl,rfl⟩ zo fun b o q=>bB _ (bB _ q)
     repeat (any_goals (first | assumption | wp_step))
    |_=>exact hr2.elim
  |_=>exact hr.elim
end
theorem ayT{prog:Program}{w:World}{A:Around}(hh:A.handled=none)(it l:Addr)(hne:l≠it)(its:Array Value):
  Draws prog w A it [it,l] (its.size+1) (fun i v=>∃j,i=j+1/\its[j]? =some v) (fun i h=>∃j,i=j+1/\h.IsListIter it l j/\h.IsList l its) where
 live:=fun i h st=>by
  obtain⟨j,_,st⟩:=st
  exact (Draws.list (prog:=prog) (w:=w) hh it l hne its).live j h st
 frame:=fun i h h' st k=>by
  obtain⟨j,e,st⟩:=st
  exact⟨j,e,(Draws.list (prog:=prog) (w:=w) hh it l hne its).frame j h h' st k⟩
 item:=fun i s Q E hi st hQ=>by
  obtain⟨j,e,st⟩:=st
  exact (Draws.list hh it l hne its).item j s Q E (by omega) st fun x h' tk p st' sb=>hQ x h' tk ⟨j,e,p⟩ ⟨j+1,by omega,st'⟩ sb
 done:=fun s Q E st hE=>by
  obtain⟨j,e,st⟩:=st
  obtain rfl:j=its.size:=by omega
  exact (Draws.list hh it l hne its).done s Q E st hE
noncomputable def Itf(K:FG)(a:Addr):It:=
 ⟨fun i H=>∃xs x,SqL K H a xs/\xs[i]? =some x,fun i H v H'=>∃T,v=.ref T/\H T=none/\∀xs,SqL K H a xs->∃x,xs[i]? =some x/\H'=upd H T (.tup [.int ((i+1:Nat):Int),x]),fun i H=>∃xs,SqL K H a xs/\xs.length=i⟩
theorem ay9{P:Program}{w:World}{K:FG}{es:List Expr}{kk:Nat}{pos:Pos}(a e it:Addr)(hne:e≠it):Turn P w K (.Tuple es kk pos) (Itf K a) [e,it] e (fun i h=>(∃old,IsEnum h e it ((i+1:Nat):Int) old)/\h.IsListIter it a i) where
 mem:=by simp
 obj:=fun i h st b hb=>by
  obtain⟨⟨old,he⟩,o,e1,c,d⟩:=st
  rcases aX.mp hb with z | z
  ·subst z
   exact⟨_,he,fun v q=>by
    have q':Data.fields _=Data.cell v:=q
    cases q'⟩
  ·have z:b=it:=by simpa using z
   subst z
   exact⟨o,e1,fun v q=>by rw[d] at q;cases q⟩
 keep:=fun i h h' st k=>by
  obtain⟨⟨old,he⟩,hit⟩:=st
  exact⟨⟨old,k e (by simp) _ he⟩,hit.at fun o q=>k it (by simp) o q⟩
 item:=by
  intro X hP hw hK hc i pins s σ H E I hf st hg
  subst hP hw hK
  obtain⟨xs,x,hq,hx⟩:=hg
  obtain⟨⟨old,he⟩,hit⟩:=st
  obtain⟨its,rv,p,hz⟩:=I.list hq
  obtain⟨u,hu,ru⟩:=rv.get hx
  obtain⟨ol,eol,cl,_⟩:=id p.isList
  obtain⟨oi,eoi,ci,_⟩:=id hit
  have n1:a≠it:=fun z=>by rw[z,eoi] at eol;cases eol;rw[ci] at cl;exact absurd (Value.type.inj cl) (by decide)
  have n2:e≠a:=fun z=>by rw[←z,he] at eol;cases eol;exact absurd (Value.type.inj cl) (by decide)
  have hlt:i<its.toArray.size:=by
   have:=(cE.mp hx).1
   have:=rv.length
   simp
   omega
  refine wpAny_pyNext_enum_itemD (i:=i+1) (ayT (A:=X.A.in1) (show X.A.in1.handled=none from I.ok.hd hc) it a n1 its.toArray) he ⟨i,rfl,hit,p.isList⟩ (by omega) hne (by simp[hne,n2]) fun x' h1 tk pv ho st1 hT hsz hk=>?_
  obtain⟨j,ej,hx'⟩:=pv
  obtain rfl:i=j:=by omega
  obtain rfl:u=x':=bA ((show its.toArray[i]? =some u by simpa using hu).symm.trans hx')
  obtain⟨j',ej',hit1,_⟩:=st1
  obtain rfl:i+1=j':=by omega
  refine⟨_,rfl,wpAny_letOwnedTupleGo_enum ho fun h2 he2 sb=>?_⟩
  have ele:e<s.heap.objs.size:=aY he
  have k2:∀b ob,b∉[e,it]->s.heap.get? b=some ob->h2.get? b=some ob:=fun b ob hb q=>by
   have m1:b≠e:=fun z=>hb (by simp[z])
   have m2:b≠it:=fun z=>hb (by simp[z])
   exact (sb.2 b m1).trans (hk b ob m1 m2 q)
  have hTn:s.heap.objs.size≠e:=cF ele
  have hT2:h2.get? s.heap.objs.size=some {cls:=.type "tuple",data:=.seq #[.int ((i+1:Nat):Int) tk,u]}:=(sb.2 _ hTn).trans hT
  have hn:=I.hok.fresh (aV s.heap.objs.size)
  have I2:Inv X pins σ (upd H s.heap.objs.size (.tup [.int ((i+1:Nat):Int),x])) {s with heap:=h2,toks:=tk+1}:=I.turnT k2 hf (aV _) ⟨by show 2<=sizeLine;decide,[.int ((i+1:Nat):Int) tk,u],.cons ⟨_,rfl⟩ (.cons ru .nil),⟨_,hT2,rfl,_,rfl⟩⟩
  refine⟨.ref s.heap.objs.size,_,I2,rfl,⟨s.heap.objs.size,rfl,hn,fun ys hy=>⟨x,by rw[I.list_inj hy hq];exact hx,rfl⟩⟩,⟨⟨_,by simpa using he2⟩,hit1.at fun o q=>(sb.2 it (Ne.symm hne)).trans q⟩,fun b hb=>?_⟩
  have hblt:b<s.heap.objs.size:=by
   rcases aX.mp hb with z | z
   ·rw[z];exact ele
   ·have z:b=it:=by simpa using z
    rw[z];exact aY eoi
  rw[aaE (bD hblt)]
  exact (hf b hb).1
 done:=by
  intro X hP hw hK hc i pins s σ H E I hf st hg
  subst hP hw hK
  obtain⟨xs,hq,hx⟩:=hg
  obtain⟨⟨old,he⟩,hit⟩:=st
  obtain⟨its,rv,p,hz⟩:=I.list hq
  obtain⟨ol,eol,cl,_⟩:=id p.isList
  obtain⟨oi,eoi,ci,_⟩:=id hit
  have n1:a≠it:=fun z=>by rw[z,eoi] at eol;cases eol;rw[ci] at cl;exact absurd (Value.type.inj cl) (by decide)
  have hl:=rv.length
  have ei:i=its.toArray.size:=by simp;omega
  refine wpAny_pyNext_enum_endD (ayT (A:=X.A.in1) (show X.A.in1.handled=none from I.ok.hd hc) it a n1 its.toArray) he ⟨i,by omega,hit,p.isList⟩ fun h' hk=>⟨rfl,?_⟩
  exact I.turnN (ch:=[e,it]) (t':=s.toks) (fun b ob hb q=>hk b ob (fun z=>hb (by simp[z])) q) hf
 self:=fun _ _ _ _ _ st h=>by
  obtain⟨⟨old,he⟩,_⟩:=st
  exact wpAny_pyIter_enum he h
section
variable{X:Cx}{es:List Expr}{kk:Nat}{tpos:Pos}
noncomputable def iEnS(K:FG)(tl:TE):TI:=fun σ H R=>tl σ H fun x H1=>∃a,x=.ref a/\(∃xs,SqL K H1 a xs)/\R (Itf K a) H1
theorem iES{l:Expr}{tl:TE}{j:Nat}{p p3 p4 pos:Pos}(hm:X.mg "enumerate"=none)(hl:E X l tl)(hg:Gl X "enumerate":=by rfl)(hs:starEach [l] X.env=[(false,eval l X.env)]:=by rfl):
  Il X (.Tuple es kk tpos) (.Call (.Name "enumerate" p) [l] [⟨some "start",.Constant (.int 1) j p3,p4⟩] pos) (iEnS X.K tl):=by
 refine⟨fun pins s σ H R I h=>?_⟩
 have hA:PA X [l] (ac0 tl adJ):=acB hl.h ac7 hs
 have hK:PK X [⟨some "start",.Constant (.int 1) j p3,p4⟩] (ac0 (tC (.int 1)) adJ):=az6 as1 aDS
 have ea:backTo pos (starEach [l] X.env)=[(false,eval l X.env)]:=by rw[hs];rfl
 refine d9 (aeQ I hg hm aoB ?_)
 unfold callWith
 refine dW (dZ ?_)
 have a0:=hA pos pins s σ H (fun vs H1=>match vs with | [x]=>∃a,x=.ref a/\(∃xs,SqL X.K H1 a xs)/\R (Itf X.K a) H1 | _=>False) I h
 rw[ea] at a0 ⊢
 refine evalArgs_kw rfl (thn a0 fun us s1 ⟨vs,H1,I1,r1,q1⟩=>?_)
 match vs,q1,r1 with
 |[x],q1,r1=>?_
 obtain⟨a,rfl,⟨xs,hq⟩,q⟩:=q1
 obtain⟨u,rfl,rx⟩:=acK r1
 cases rx
 refine thn (hK pos pins s1 σ H1 (fun zs H2=>zs=[.int 1]/\H2=H1) I1 ⟨rfl,rfl⟩) fun ks s2 ⟨zs,H2,I2,r2,ez,eh⟩=>?_
 subst ez eh
 obtain⟨u1,rfl,t,rfl⟩:=acK r2
 refine dW (dR ?_)
 refine dW (eC ?_)
 obtain⟨its,rv,pl,hz⟩:=I2.list hq
 refine dW (axA (t:=t) pl.isList fun h' he hit hsz hk=>?_)
 refine dW (dZ (wpAny_point (eC ?_)))
 refine wpAny_pyIter_enum he ?_
 have I3:Inv X pins σ H2 {s2 with heap:=h'}:=I2.kept (t':=s2.toks) hk
 have hne:s2.heap.objs.size+1≠s2.heap.objs.size:=cF (Nat.lt_succ_self _)
 refine⟨_,[s2.heap.objs.size+1,s2.heap.objs.size],_,_,H2,rfl,I3,ay9 a _ _ hne,⟨⟨_,he⟩,hit⟩,fun b hb=>?_,q⟩
 have hb2:s2.heap.objs.size<=b:=by
  rcases aX.mp hb with z | z
  ·rw[z];exact Nat.le_succ _
  ·have z:b=s2.heap.objs.size:=by simpa using z
   rw[z];exact aV _
 exact I2.fpOk hb2 (I2.hok.fresh hb2)
end
theorem aBB{K:FG}{a:Addr}{xs:List V}{g:TG}{tb:TS}{D:Ends}{σ:St}{H:Hp}(Pv:Nat->St->Hp->Prop)(h0:Pv 0 σ H)(hl:∀i σ H,i<=xs.length->Pv i σ H->SqL K H a xs)
  (hs:∀i x σ H T,xs[i]? =some x->Pv i σ H->H T=none->g (.ref T) σ (upd H T (.tup [.int ((i+1:Nat):Int),x])) fun σ2 H2=>tb {D with nx:=Pv (i+1),ct:=Pv (i+1),bk:=D.nx} σ2 H2) (hd:∀σ H,Pv xs.length σ H->D.nx σ H):
  ∃W:Nat->Nat->St->Hp->Prop,(∃m,W 0 m σ H)/\∀i m σ H,W i m σ H->
   ((Itf K a).stop i H/\D.nx σ H)∨((Itf K a).go i H/\∃N:St->Hp->Prop,(∀σ' H',N σ' H'->∃m',m'<m/\W (i+1) m' σ' H')/\∀x H',(Itf K a).yld i H x H'->g x σ H' fun σ2 H2=>tb {D with nx:=N,ct:=N,bk:=D.nx} σ2 H2):=by
 refine⟨fun i m σ H=>m=xs.length-i/\i<=xs.length/\Pv i σ H,⟨xs.length,by simp,bM _,h0⟩,?_⟩
 rintro i m σ H ⟨rfl,hi,p⟩
 have hq:=hl i σ H hi p
 by_cases hlt:i<xs.length
 ·refine .inr ⟨⟨xs,xs[i],hq,by simp[hlt]⟩,Pv (i+1),fun σ' H' p'=>⟨xs.length-(i+1),by omega,rfl,hlt,p'⟩,fun x H' y=>?_⟩
  obtain⟨T,rfl,hT,hy⟩:=y
  obtain⟨x,hx,rfl⟩:=hy xs hq
  exact hs i x σ H T hx p hT
 ·have e:i=xs.length:=by omega
  subst e
  exact .inl ⟨⟨xs,hq,rfl⟩,hd σ H p⟩
theorem oNeE{X:Cx}(hu:X.A.units+64<cLine):Op2 X (compareOp .NotEq) (fun x y H Q=>∃(a b:Addr) (vs:List V),x=.ref a/\y=.ref b/\SqL X.K H a vs/\SqL X.K H b []/\Q (.bl (decide (vs≠[]))) H):=by
 refine⟨fun pins s σ H x y v u Q I rx ry h=>?_⟩
 obtain⟨a,b,vs,rfl,rfl,ha,hb,q⟩:=h
 cases rx
 cases ry
 obtain⟨its,rv,pl,_⟩:=I.list ha
 obtain⟨its',rv',pl',_⟩:=I.list hb
 cases rv'
 have e:=rv.length
 cases vs with
 |nil=>
  cases rv
  refine SeqAt.RcNeAt.lists (e:=fun _=>true) pl.isList pl'.isList rfl (by omega) (fun i h1 h2=>SeqAt.EqAt.same _) _ _ _ _ ?_
  exact⟨.bl false,H,I,by show Value.bool _=Value.bool false;congr 1,q⟩
 |cons v0 vs=>
  refine SeqAt.RcNeAt.lists_lengths pl.isList pl'.isList (by rw[bG,←e];rfl) (by omega) _ _ _ _ ?_
  exact⟨.bl true,H,I,rfl,q⟩
end L2
namespace L2
open PySem PySem.Spec PyProof.Rows PySem.SeqAt
noncomputable abbrev Tri:=Int×Int×Int
noncomputable def TpT(H:Hp)(v:V)(s:Tri):Prop:=∃t,v=.ref t/\H t=some (.tup [.int s.1,.int s.2.1,.int s.2.2])
noncomputable def arU(H:Hp)(p:Addr)(sts:List Tri):Prop:=∃vs,H p=some (.lst vs)/\Paired (TpT H) vs sts
noncomputable def SqN(K:FG)(H:Hp)(a:Addr)(ls:List (List Tri)):Prop:=∃ps:List Addr,SqL K H a (ps.map V.ref)/\Paired (arU H) ps ls
noncomputable def ahT(p:Tri):PyData:=.tuple [.int p.1,.int p.2.1,.int p.2.2]
noncomputable def afA(l:List Tri):PyData:=.list (l.map ahT)
section
variable{X:Cx}
theorem axU{pins:List (Addr×Obj)}{σ:St}{H:Hp}{s:Shared}(I:Inv X pins σ H s):∀{vs:List V} {prs:List Tri} {us:List Value},Vals vs us->Paired (TpT H) vs prs->∃as,ReadsAll s.heap us (prs.map ahT) as
 |[],[],[],_,_=>⟨_,.nil⟩
 |[],_::_,_,_,h=>nomatch h
 |_::_,[],_,_,h=>nomatch h
 |[],[],_::_,h,_=>nomatch h
 |_::_,_::_,[],h,_=>nomatch h
 |_::vs,p::prs,u::us,.cons hu hr,.cons ⟨t,e,hp⟩ hq=>by
  subst e
  obtain⟨as,ra⟩:=axU I hr hq
  cases hu
  obtain⟨its,rv,⟨o,ho,hc,n,hd⟩,hz⟩:=I.tuple (SqT.of (K:=X.K) hp)
  have r1:Reads s.heap (.ref t) (ahT p) _:=Reads.tuple ho hc hd (by simpa using PySem.W.readsAll_of_ints (abW (is:=[p.1,p.2.1,p.2.2]) rv))
  exact⟨_,.cons r1 ra⟩
theorem aBX{pins:List (Addr×Obj)}{σ:St}{H:Hp}{s:Shared}(I:Inv X pins σ H s){p:Addr}{l:List Tri}(h:arU H p l):∃as,Reads s.heap (.ref p) (afA l) as:=by
 obtain⟨vs,h1,h2⟩:=h
 obtain⟨its,rv,pl,_⟩:=I.list (SqL.of (K:=X.K) h1)
 obtain⟨o,ho,hc,n,hd⟩:=pl.isList
 obtain⟨as,ra⟩:=axU I rv h2
 exact⟨_,Reads.list ho hc hd (by simpa using ra)⟩
theorem aq6{pins:List (Addr×Obj)}{σ:St}{H:Hp}{s:Shared}(I:Inv X pins σ H s):∀{ps:List Addr} {ls:List (List Tri)} {us:List Value},Vals (ps.map V.ref) us->Paired (arU H) ps ls->∃as,ReadsAll s.heap us (ls.map afA) as
 |[],[],[],_,_=>⟨_,.nil⟩
 |[],_::_,_,_,h=>nomatch h
 |_::_,[],_,_,h=>nomatch h
 |[],[],_::_,h,_=>nomatch h
 |_::_,_::_,[],h,_=>nomatch h
 |p::ps,l::ls,u::us,.cons hu hr,.cons hp hq=>by
  obtain⟨as,ra⟩:=aq6 I hr hq
  cases hu
  obtain⟨bs,rb⟩:=aBX I hp
  exact⟨_,.cons rb ra⟩
theorem aw4{pins:List (Addr×Obj)}{σ:St}{H:Hp}{s:Shared}(I:Inv X pins σ H s){a:Addr}{ls:List (List Tri)}(h:SqN X.K H a ls):∃as,Reads s.heap (.ref a) (.list (ls.map afA)) as:=by
 obtain⟨ps,h1,h2⟩:=h
 obtain⟨its,rv,pl,_⟩:=I.list h1
 obtain⟨o,ho,hc,n,hd⟩:=pl.isList
 obtain⟨as,ra⟩:=aq6 I rv h2
 exact⟨_,Reads.list ho hc hd (by simpa using ra)⟩
theorem ayV:∀prs:List Tri,PyData.depthAll (prs.map ahT)<=10
 |[]=>by simp[PyData.depthAll]
 |p::r=>by
  have:=ayV r
  simp only[bI,ahT,PyData.depthAll,PyData.depth] at this ⊢
  omega
theorem auF:∀prs:List Tri,PyData.canLayAll0 (prs.map ahT)=true
 |[]=>by simp[PyData.canLayAll0]
 |p::r=>by
  have:=auF r
  simp only[bI,ahT,PyData.canLayAll0,PyData.canLay0] at this ⊢
  simpa using this
theorem axV:∀ls:List (List Tri),PyData.depthAll (ls.map afA)<=20
 |[]=>by simp[PyData.depthAll]
 |l::r=>by
  have:=axV r
  have h:=ayV l
  simp only[bI,afA,PyData.depthAll,PyData.depth] at this ⊢
  omega
theorem avF:∀ls:List (List Tri),PyData.canLayAll0 (ls.map afA)=true
 |[]=>by simp[PyData.canLayAll0]
 |l::r=>by
  have:=avF r
  have h:=auF l
  simp only[bI,afA,PyData.canLayAll0,PyData.canLay0] at this ⊢
  rw[h,this]
  rfl
theorem auV(ls:List (List Tri)):shaped (.list (ls.map afA))=true:=by
 have h1:=axV ls
 have h2:PyData.depth (.list (ls.map afA))<=64:=by simp only[PyData.depth];omega
 show (PyData.canLay0 (.list (ls.map afA))&&decide (PyData.depth (.list (ls.map afA))<=64))=true
 rw[bX]
 exact⟨by simp only[PyData.canLay0];exact avF ls,d6 h2⟩
theorem ayN:∀ns ms:List Tri,noMixAll (ns.map ahT) (ms.map ahT)=true
 |[],[]=>by simp[noMixAll]
 |[],_::_=>by simp[noMixAll]
 |_::_,[]=>by simp[noMixAll]
 |_::r,_::q=>by simp[noMixAll,noMix,ahT,ayN r q]
theorem ayF:∀ns ms:List (List Tri),noMixAll (ns.map afA) (ms.map afA)=true
 |[],[]=>by simp[noMixAll]
 |[],_::_=>by simp[noMixAll]
 |_::_,[]=>by simp[noMixAll]
 |a::r,b::q=>by simp[noMixAll,noMix,afA,ayN a b,ayF r q]
theorem aCB:∀ns ms:List Tri,PySem.Spec.sameAll (ns.map ahT) (ms.map ahT)=decide (ns=ms)
 |[],[]=>by simp[PySem.Spec.sameAll]
 |[],_::_=>by simp[PySem.Spec.sameAll]
 |_::_,[]=>by simp[PySem.Spec.sameAll]
 |(a,b,c)::r,(x,y,z)::q=>by
  simp only[bI,ahT,PySem.Spec.sameAll,PySem.Spec.same,aCB r q]
  by_cases h1:a=x<;>by_cases h2:b=y<;>by_cases h3:c=z<;>simp[h1,h2,h3]
theorem aCK:∀ns ms:List (List Tri),PySem.Spec.sameAll (ns.map afA) (ms.map afA)=decide (ns=ms)
 |[],[]=>by simp[PySem.Spec.sameAll]
 |[],_::_=>by simp[PySem.Spec.sameAll]
 |_::_,[]=>by simp[PySem.Spec.sameAll]
 |a::r,b::q=>by
  simp only[bI,afA,PySem.Spec.sameAll,PySem.Spec.same,aCB a b,aCK r q]
  by_cases h1:a=b<;>simp[h1]
noncomputable def rEqN(K:FG)(neg:Bool):R2:=fun x y H Q=>∃(a b:Addr) (ls ms:List (List Tri)),x=.ref a/\y=.ref b/\SqN K H a ls/\SqN K H b ms/\Q (.bl (if neg then !decide (ls=ms) else decide (ls=ms))) H
theorem aD2{K:FG}(hu:X.A.units+64<cLine)(hK:X.K=K:=by rfl):Op2 X (compareOp .NotEq) (rEqN K true):=by
 subst hK
 refine⟨fun pins s σ H x y v u Q I rx ry h=>?_⟩
 obtain⟨a,b,ls,ms,rfl,rfl,ha,hb,q⟩:=h
 cases rx
 cases ry
 obtain⟨as,ra⟩:=aw4 I ha
 obtain⟨bs,rb⟩:=aw4 I hb
 exact ne_dataH_same ra rb (auV _) (auV _) hu (by simp only[noMix];exact ayF _ _) (by show EP X pins σ Q (.bool (!same (.list _) (.list _))) s;simp only[same];rw[aCK];exact⟨.bl _,H,I,rfl,q⟩)
end
section
variable{X:Cx}
end
theorem al2{α β:Type}{F:α->β->Prop}:∀{l:List α} {r:List β},l.length=r.length->(∀(j:Nat) (a:α) (b:β),l[j]? =some a->r[j]? =some b->F a b)->Paired F l r
 |[],[],_,_=>.nil
 |[],_::_,h,_=>nomatch h
 |_::_,[],h,_=>nomatch h
 |a::l,b::r,h,f=>.cons (f 0 a b rfl rfl) (al2 (bU h) fun j x y hx hy=>f (j+1) x y hx hy)
theorem ap8{α β:Type}{F:α->β->Prop}{l:List α}{n:Nat}{g:Nat->β}(hl:l.length=n)(f:∀(j:Nat) (a:α),l[j]? =some a->F a (g j)):Paired F l ((List.range n).map g):=by
 refine al2 (by simp[hl]) fun j a b ha hb=>?_
 have hj:j<n:=hl▸(cE.mp ha).1
 rw[bE,dA hj] at hb
 cases hb
 exact f j a ha
theorem fsc{N P:List Str}{sc:Scope}(h1:sc.kind=.function:=by rfl)(h2:sc.isCoroutine=false:=by rfl)(h3:sc.isGenerator=false:=by rfl)(h4:N.Nodup:=by decide +kernel)(h5:N.take P.length=P:=by rfl)(h6:∀x∈P,sc.names.lookup x=some .local∨sc.names.lookup x=some .cell:=by decide +kernel)(h7:∀y∈sc.names,y.2≠ .free:=by decide +kernel):FnScope N P sc:=⟨h1,h2,h3,h4,h5,h6,h7⟩
theorem azM{α β:Type}{F:α->β->Prop}{l:List α}{a:β}(h:Paired F l [a]):∃v,l=[v]/\F v a:=by
 cases h with
 |cons h1 t=>cases t;exact⟨_,rfl,h1⟩
theorem awY{α β:Type}{F:α->β->Prop}{l:List α}{a b:β}(h:Paired F l [a,b]):∃u v,l=[u,v]/\F u a/\F v b:=by
 cases h with
 |cons h1 t=>
  obtain⟨v,rfl,h2⟩:=azM t
  exact⟨_,v,rfl,h1,h2⟩
theorem ay1{α β:Type}{F:α->β->Prop}{a:α}{r:List β}(h:Paired F [a] r):∃v,r=[v]/\F a v:=by
 cases h with
 |cons h1 t=>cases t;exact⟨_,rfl,h1⟩
theorem aC4{α β:Type}{F:α->β->Prop}{a b:α}{r:List β}(h:Paired F [a,b] r):∃u v,r=[u,v]/\F a u/\F b v:=by
 cases h with
 |cons h1 t=>
  obtain⟨v,rfl,h2⟩:=ay1 t
  exact⟨_,v,rfl,h1,h2⟩
theorem azU{α β:Type}{F:α->β->Prop}{l:List α}{a b c:β}(h:Paired F l [a,b,c]):∃u v w,l=[u,v,w]/\F u a/\F v b/\F w c:=by
 cases h with
 |cons h1 t=>
  obtain⟨v,w,rfl,h2,h3⟩:=awY t
  exact⟨_,v,w,rfl,h1,h2,h3⟩
theorem axS{α:Type}{l:List α}(h:l.length=1):∃a,l=[a]:=by
 cases l with
 |nil=>cases h
 |cons a r=>exact⟨a,by rw[dI (bU h)]⟩
theorem ay2{α:Type}{l:List α}(h:l.length=3):∃a b c,l=[a,b,c]:=by
 cases l with
 |nil=>cases h
 |cons a r=>
  cases r with
  |nil=>cases h
  |cons b r=>
   obtain⟨c,rfl⟩:=axS (bU (bU h))
   exact⟨a,b,c,rfl⟩
theorem zL(n:Nat)(h:n<=100:=by decide):n<=sizeLine:=by rw[dY];omega
end L2
namespace K66
open PySem PySem.Spec PyProof.Rows L2 KM
noncomputable def top(i:Nat):Stmt:=PySem.Challenge.pw_fivefields_k66_whole_alike_sheets.main.body.getD i (.Pass ⟨0,0,0,0⟩)
noncomputable abbrev an4:Stmt:=top 13
noncomputable abbrev anT:Stmt:=top 16
noncomputable abbrev ak0:Stmt:=top 37
noncomputable abbrev afX:Stmt:=top 24
noncomputable abbrev ag1:Stmt:=top 25
noncomputable abbrev aB6:Stmt:=top 39
noncomputable abbrev anZ:Stmt:=top 54
noncomputable abbrev ahP:Stmt:=top 55
noncomputable abbrev akZ:Stmt:=top 56
noncomputable abbrev af5:Stmt:=top 57
noncomputable abbrev al7:Stmt:=top 58
noncomputable abbrev aeU:Stmt:=top 59
noncomputable abbrev ai6:Stmt:=top 60
noncomputable abbrev ag5:Stmt:=top 61
noncomputable abbrev ahN:Stmt:=top 71
noncomputable abbrev alI:Stmt:=top 72
noncomputable abbrev ae0:Stmt:=top 73
noncomputable abbrev ajB:Stmt:=top 74
noncomputable abbrev ai5:Stmt:=aaK (top 75) 0
noncomputable abbrev acX:Stmt:=aaK (top 76) 0
noncomputable abbrev afI:Stmt:=aaK (top 76) 1
noncomputable abbrev abA:Stmt:=aaK (top 77) 0
noncomputable abbrev ajG:Stmt:=aaK (top 77) 1
noncomputable abbrev ad6:Stmt:=aaK (top 78) 0
noncomputable abbrev ajL:Stmt:=aaK (top 78) 1
noncomputable abbrev ad4:Stmt:=aaK (top 79) 0
noncomputable abbrev acQ:Stmt:=aaK (top 80) 0
noncomputable abbrev adZ:Stmt:=aaK (top 80) 1
noncomputable abbrev afC:Stmt:=aaK (top 81) 0
noncomputable abbrev alP:Stmt:=aaK (top 81) 1
noncomputable abbrev acY:Stmt:=aaK (top 82) 0
noncomputable abbrev ae2:Stmt:=aaK (top 82) 1
noncomputable abbrev amJ:Stmt:=top 83
noncomputable abbrev ad2:Stmt:=top 84
noncomputable abbrev afF:Stmt:=top 85
noncomputable abbrev acR:Stmt:=top 86
noncomputable abbrev ahA:Stmt:=top 87
noncomputable abbrev ajD:Stmt:=top 88
noncomputable abbrev ad1:Stmt:=top 89
noncomputable abbrev ak3:Stmt:=top 99
noncomputable abbrev anV:Stmt:=top 100
noncomputable abbrev aeW:Stmt:=aaK (top 101) 0
noncomputable abbrev af4:Stmt:=aaK (top 101) 5
noncomputable abbrev ajM:Stmt:=top 102
noncomputable abbrev an0:Stmt:=top 103
noncomputable abbrev ak7:Stmt:=top 104
noncomputable abbrev ahI:Stmt:=aaK (top 113) 1
noncomputable abbrev ak6:Stmt:=aaK (top 113) 1
noncomputable abbrev aeY:Stmt:=aaK (top 117) 2
noncomputable abbrev ajP:Stmt:=aaK (top 118) 2
noncomputable abbrev ahL:Stmt:=aaK (top 119) 2
noncomputable abbrev aeT:Stmt:=aaK (top 120) 2
noncomputable abbrev agZ:Stmt:=aaK (top 113) 2
noncomputable abbrev alC:Stmt:=aaK (top 113) 2
noncomputable abbrev ae7:Stmt:=aaK (top 117) 3
noncomputable abbrev ai8:Stmt:=aaK (top 118) 3
noncomputable abbrev ahJ:Stmt:=aaK (top 119) 3
noncomputable abbrev aeS:Stmt:=aaK (top 120) 3
noncomputable abbrev alE:Stmt:=top 111
noncomputable abbrev amK:Stmt:=top 112
noncomputable abbrev anR:Stmt:=top 114
noncomputable abbrev ae6:Stmt:=top 115
noncomputable abbrev af1:Stmt:=aaK (top 116) 0
noncomputable abbrev ac2:Stmt:=aaK (top 117) 0
noncomputable abbrev afE:Stmt:=aaK (top 118) 0
noncomputable abbrev ad0:Stmt:=aaK (top 119) 0
noncomputable abbrev ac5:Stmt:=aaK (top 120) 0
noncomputable abbrev ajJ:Stmt:=aaK (top 101) 4
noncomputable abbrev afW:Stmt:=aaK (top 101) 6
noncomputable abbrev ad3:Stmt:=top 109
noncomputable abbrev ajN:Stmt:=top 110
noncomputable abbrev aeX:Stmt:=aaK (top 113) 3
noncomputable abbrev ahF:Stmt:=aaK (top 116) 2
noncomputable abbrev adD:Stmt:=aaK (top 117) 4
noncomputable abbrev agA:Stmt:=aaK (top 118) 4
noncomputable abbrev aeR:Stmt:=aaK (top 119) 4
noncomputable abbrev adH:Stmt:=aaK (top 120) 4
noncomputable abbrev aeM:Stmt:=top 122
noncomputable abbrev ajC:Stmt:=top 123
noncomputable abbrev agF:Stmt:=top 124
noncomputable abbrev ag0:Stmt:=top 125
noncomputable abbrev ak9:Stmt:=top 126
noncomputable abbrev ai3:Stmt:=top 127
noncomputable abbrev ajO:Stmt:=top 128
noncomputable abbrev agE:Stmt:=top 46
noncomputable abbrev anP:Stmt:=top 48
noncomputable abbrev amX:Stmt:=top 49
noncomputable abbrev agC:Stmt:=top 129
noncomputable abbrev ag8:Stmt:=top 130
noncomputable abbrev ag2:Stmt:=top 131
noncomputable abbrev ai4:Stmt:=top 132
noncomputable abbrev agD:Stmt:=top 133
noncomputable abbrev aoD:Stmt:=top 134
noncomputable def ac6(y:Int):Bool:=decide (y%4=0)&&(!decide (y%100=0)||decide (y%400=0))
noncomputable def mb(y s:Int):Int:=(y+s-1) / s
noncomputable def db(y:Int):Int:=365*y+(mb y 4-mb y 100+mb y 400)
noncomputable def lasts:List Int:=[31,28,31,30,31,30,31,31,30,31,30,31]
noncomputable def azC(y:Int):Int:=if ac6 y=true then 1 else 0
noncomputable def adP(y m:Int):Int:=if m=2 then 28+azC y else lasts.getD (m-1).toNat 0
theorem al3(y:Int):ac6 y=true↔(y%4=0/\(y%100≠0∨y%400=0)):=by
 unfold ac6
 simp
theorem aqP{y:Int}(h:y%4=0/\(y%100≠0∨y%400=0)):ac6 y=true:=(al3 y).mpr h
theorem arS{y:Int}(h:¬(y%4=0/\(y%100≠0∨y%400=0))):ac6 y=false:=by
 cases e:ac6 y
 ·rfl
 ·exact absurd ((al3 y).mp e) h
theorem aqY{m:Int}(h1:1<=m)(h2:m<=12):atI (lasts.map V.int) (m-1)=some (V.int (lasts.getD (m-1).toNat 0)):=by
 have hk:(m-1).toNat<12:=by omega
 have e:m-1=(((m-1).toNat:Nat):Int):=by omega
 rw[e]
 refine adU ?_
 rw[bP]
 generalize (m-1).toNat=j at hk
 match j,hk with
 |0,_ | 1,_ | 2,_ | 3,_ | 4,_ | 5,_ | 6,_ | 7,_ | 8,_ | 9,_ | 10,_ | 11,_=>rfl
 |n+12,h=>exact absurd h (by omega)
noncomputable def aqQ(k:Int):List Int:=if k / 7=12 then [2,29,k%7] else [k / 7+1,adP 1 (k / 7+1),k%7]
noncomputable def mnA(k:Int):Int:=if k / 7=12 then 2 else k / 7+1
noncomputable def lnA(k:Int):Int:=if k / 7=12 then 29 else adP 1 (k / 7+1)
theorem ahQ(k:Int):aqQ k=[mnA k,lnA k,k%7]:=by
 unfold aqQ mnA lnA
 split<;>rfl
theorem aBH:∀n:Nat,n<91->(1<=mnA n/\mnA n<=12)/\(28<=lnA n/\lnA n<=31):=by decide +kernel
theorem afJ{k:Int}(h0:0<=k)(h1:k<=90):(1<=mnA k/\mnA k<=12)/\Lf (lnA k) (k%7):=by
 have z:=aBH k.toNat (by omega)
 rw[b5 h0] at z
 exact⟨z.1,z.2,by omega,by omega⟩
noncomputable def DVn(c:Cs)(D:Addr)(H:Hp)(v:V)(ko:Option (List Mk)):Prop:=DV c H v ko/\∀p,v=.ref p->p≠D
theorem DVn.upd{c:Cs}{D:Addr}{H:Hp}{l':List V}{v:V}:∀{ko:Option (List Mk)},DVn c D H v ko->(∃l,H D=some (.lst l))->DVn c D (upd H D (.lst l')) v ko
 |none,h,_=>h
 |some ks,⟨⟨p,qs,e,h1,h2,h3⟩,hn⟩,⟨l,hl⟩=>⟨⟨p,qs,e,by rw[aaE (hn p e)];exact h1,h2.keepM (ag9 hl),h3⟩,hn⟩
noncomputable def RR(c:Cs)(m0 m1 m3:Int)(kd kw:Option (List Mk))(D:Addr)(i:Nat)(l:List V)(H:Hp):Prop:=match i with
 |0=>l=[]
 |1=>l=[.int m0]
 |2=>l=[.int m0,.int m1]
 |3=>∃dv,l=[.int m0,.int m1,dv]/\DVn c D H dv kd
 |4=>∃dv,l=[.int m0,.int m1,dv,.int m3]/\DVn c D H dv kd
 |_=>∃dv wv,l=[.int m0,.int m1,dv,.int m3,wv]/\DVn c D H dv kd/\DVn c D H wv kw
theorem az4{ws:List (List Nat)}(h:∀w∈ws,w≠[]):inV (.str (Tx [])) (ws.map fun q=>V.str (Tx q))=false:=by
 unfold inV
 rw[List.any_map,cQ]
 intro w hw hc
 have e:Tx w=Tx []:=beq_iff_eq.mp (show (Tx w==Tx [])=true from hc)
 exact h w hw (by have:=congrArg (fun z=>z.cps.toList) e;simpa [Tx] using this)
noncomputable def ab7(m0 m1:Int)(dv:V)(m3:Int)(wv:V)(tm:Int):List (Str×V):=aaY "time_mask" (.int tm) (aaY "weekday_marks" wv (aaY "month_mask" (.int m3) (aaY "day_marks" dv (aaY "hour_mask" (.int m1) (aaY "minute_mask" (.int m0) [])))))
theorem aiA(m0 m1:Int)(dv:V)(m3:Int)(wv:V)(tm:Int):(ab7 m0 m1 dv m3 wv tm).lookup ("minute_mask":Str)=some (.int m0):=by
 unfold ab7
 rw[aaD,if_neg (by decide +kernel),aaD,if_neg (by decide +kernel),aaD,if_neg (by decide +kernel),aaD,if_neg (by decide +kernel),aaD,if_neg (by decide +kernel),aaD,if_pos rfl]
theorem alU(m0 m1:Int)(dv:V)(m3:Int)(wv:V)(tm:Int):(ab7 m0 m1 dv m3 wv tm).lookup ("hour_mask":Str)=some (.int m1):=by
 unfold ab7
 rw[aaD,if_neg (by decide +kernel),aaD,if_neg (by decide +kernel),aaD,if_neg (by decide +kernel),aaD,if_neg (by decide +kernel),aaD,if_pos rfl]
theorem amR(m0 m1:Int)(dv:V)(m3:Int)(wv:V)(tm:Int):(ab7 m0 m1 dv m3 wv tm).lookup ("day_marks":Str)=some (dv):=by
 unfold ab7
 rw[aaD,if_neg (by decide +kernel),aaD,if_neg (by decide +kernel),aaD,if_neg (by decide +kernel),aaD,if_pos rfl]
theorem aj4(m0 m1:Int)(dv:V)(m3:Int)(wv:V)(tm:Int):(ab7 m0 m1 dv m3 wv tm).lookup ("month_mask":Str)=some (.int m3):=by
 unfold ab7
 rw[aaD,if_neg (by decide +kernel),aaD,if_neg (by decide +kernel),aaD,if_pos rfl]
theorem agS(m0 m1:Int)(dv:V)(m3:Int)(wv:V)(tm:Int):(ab7 m0 m1 dv m3 wv tm).lookup ("weekday_marks":Str)=some (wv):=by
 unfold ab7
 rw[aaD,if_neg (by decide +kernel),aaD,if_pos rfl]
theorem afG(m0 m1:Int)(dv:V)(m3:Int)(wv:V)(tm:Int):(ab7 m0 m1 dv m3 wv tm).lookup ("time_mask":Str)=some (.int tm):=by
 unfold ab7
 rw[aaD,if_pos rfl]
theorem ad8(m0 m1:Int)(dv:V)(m3:Int)(wv:V)(tm:Int):(ab7 m0 m1 dv m3 wv tm).lookup ("days_in":Str)=none:=by
 unfold ab7
 rw[aaD,if_neg (by decide +kernel),aaD,if_neg (by decide +kernel),aaD,if_neg (by decide +kernel),aaD,if_neg (by decide +kernel),aaD,if_neg (by decide +kernel),aaD,if_neg (by decide +kernel)]
 rfl
theorem akI(m0 m1:Int)(dv:V)(m3:Int)(wv:V)(tm:Int):(ab7 m0 m1 dv m3 wv tm).lookup ("on_days":Str)=none:=by
 unfold ab7
 rw[aaD,if_neg (by decide +kernel),aaD,if_neg (by decide +kernel),aaD,if_neg (by decide +kernel),aaD,if_neg (by decide +kernel),aaD,if_neg (by decide +kernel),aaD,if_neg (by decide +kernel)]
 rfl
theorem adB(m0 m1:Int)(dv:V)(m3:Int)(wv:V)(tm:Int):(ab7 m0 m1 dv m3 wv tm).lookup ("times":Str)=none:=by
 unfold ab7
 rw[aaD,if_neg (by decide +kernel),aaD,if_neg (by decide +kernel),aaD,if_neg (by decide +kernel),aaD,if_neg (by decide +kernel),aaD,if_neg (by decide +kernel),aaD,if_neg (by decide +kernel)]
 rfl
theorem adE{lo hi:Int}:∀{ws:List (List Nat)} {nss:List (List Int)},Paired (aeB lo hi) ws nss->(∀w∈ws,Cl w)/\(∀n∈nss.flatten,lo<=n/\n<=hi)/\nss.flatten.length<=64*ws.length
 |_,_,.nil=>⟨fun w hw=>(nomatch hw),fun n hn=>(nomatch hn),aV _⟩
 |w::ws,ns::nss,.cons r t=>by
  obtain⟨h1,h2,h3⟩:=adE t
  refine⟨fun v hv=>?_,fun n hn=>?_,?_⟩
  ·rcases aX.mp hv with z | z
   ·subst z;exact r.2.1
   ·exact h1 v z
  ·rw[cZ] at hn
   exact (bZ.mp hn).elim (r.2.2.1 n) (h2 n)
  ·rw[cZ,aW,bJ]
   have:=r.2.2.2.2
   omega
theorem abJ{α β:Type}{F:α->β->Prop}:∀{l:List α} {r:List β} {a:α} {b:β},Paired F l r->F a b->Paired F (l++[a]) (r++[b])
 |_,_,_,_,.nil,h=>.cons h .nil
 |_,_,_,_,.cons x t,h=>.cons x (abJ t h)
theorem ax2{b:Bool}{ko:Option (List Mk)}{a l f:Int}(h:Lf l f)(o:∀ks,ko=some ks->∀k∈ks,k.ok)(ha:0<=a):0<=orO ko a l f:=by
 cases ko with
 |none=>exact ha
 |some ks=>exact agG ha (aEX h (o ks rfl))
theorem ayK{m:Int}(h:0<=m)(k:Nat):Builtin.bitAnd (m / 2^k) 1=0↔tb m k=false:=by
 have hb:=adQ h k
 have h0:(0:Int)<=m / 2^k:=Int.ediv_nonneg h (Int.le_of_lt (acL k))
 have e:Builtin.bitAnd (m / 2^k) 1=0∨Builtin.bitAnd (m / 2^k) 1=1:=by
  have n1:=agU h0 (show (0:Int)<=1 by decide)
  by_cases c:tb m k=true
  ·exact .inr (hb.mpr c)
  ·left
   refine abZ n1 (a8 0) fun i=>?_
   rw[adA h0 (by decide),acJ]
   cases i with
   |zero=>
    have:tb (m / 2^k) 0=tb m k:=by
     have:=azJ (m:=m) (k:=k) h 0
     simpa using this
    rw[this,show tb m k=false by simpa using c];rfl
   |succ i=>
    have:tb 1 (i+1)=false:=akL (n:=1) (by decide) (by omega)
    rw[this,Bool.and_false]
 constructor
 ·intro z
  cases c:tb m k
  ·rfl
  ·rw[hb.mpr c] at z;cases z
 ·intro z
  rcases e with e | e
  ·exact e
  ·rw[hb.mp e] at z;cases z
noncomputable def acD(CB CO CJ CM CL CT:Addr):Nat->Hp->V->Int×Int->Prop
 |0,_,_,_=>False
 |n+1,H,v,td=>∃(x dx:Addr),v=.ref x/\
   ((td=(1,1)/\(H x=some (.ins CB dx [])∨∃r,H x=some (.ins CO dx [("row",r)])))
   ∨(∃(C t:Addr) (vs:List V) (tds:List (Int×Int)),(C=CJ∨C=CM)/\H x=some (.ins C dx [("books",.ref t)])/\H t=some (.tup vs)/\Paired (acD CB CO CJ CM CL CT n H) vs tds/\0<vs.length/\vs.length<=8/\td.1=1+(tds.map Prod.fst).sum/\(∀m∈tds.map Prod.snd,m<td.2)/\td.2-1∈tds.map Prod.snd)
   ∨(∃(v1 v2:V) (a b:Int×Int),H x=some (.ins CL dx [("one",v1),("other",v2)])/\acD CB CO CJ CM CL CT n H v1 a/\acD CB CO CJ CM CL CT n H v2 b/\td.1=1+(a.1+b.1)/\(a.2<td.2/\b.2<td.2)/\(td.2-1=a.2∨td.2-1=b.2))
   ∨(∃(v1:V) (a:Int×Int),H x=some (.ins CT dx [("one",v1)])/\acD CB CO CJ CM CL CT n H v1 a/\td=(1+a.1,1+a.2)))
noncomputable def sp1(C:Addr):Sp:=fun vs H Q _=>∃(x dx:Addr) (fs:List (Str×V)),vs=[.ref x]/\H x=some (.ins C dx fs)/\Q (.int 1) H
noncomputable def spT(C:Addr)(sp0:Sp):Sp:=fun vs H Q _=>∃(x dx t:Addr),vs=[.ref x]/\H x=some (.ins C dx [("books",.ref t)])/\sp0 [.ref t] H Q E0
noncomputable def tyT(K:FG)(CB CO CJ CM CL CT:Addr)(n:Nat):Sp:=fun vs H Q _=>∃(a:Addr) (us:List V) (tds:List (Int×Int)),vs=[.ref a]/\(SqL K H a us∨SqT K H a us)/\Paired (acD CB CO CJ CM CL CT n H) us tds/\us.length<=9/\∀H',Same H H'->Q (.int (1+(tds.map Prod.fst).sum)) H'
noncomputable def tyD(K:FG)(CB CO CJ CM CL CT:Addr)(n:Nat):Sp:=fun vs H Q _=>∃(a:Addr) (us:List V) (tds:List (Int×Int)),vs=[.ref a]/\(SqL K H a us∨SqT K H a us)/\Paired (acD CB CO CJ CM CL CT n H) us tds/\0<us.length/\us.length<=9/\∀(M:Int) (H':Hp),Same H H'->M∈tds.map Prod.snd->(∀m∈tds.map Prod.snd,m<=M)->Q (.int (1+M)) H'
theorem aaX{CB CO CJ CM CL CT:Addr}{H H':Hp}(s:Same H H'):∀(n:Nat) {v:V} {td:Int×Int},acD CB CO CJ CM CL CT n H v td->acD CB CO CJ CM CL CT n H' v td
 |0,_,_,h=>h
 |n+1,_,_,h=>by
  obtain⟨x,dx,rfl,h⟩:=h
  refine⟨x,dx,rfl,?_⟩
  rcases h with ⟨e,hx | ⟨r,hx⟩⟩ | ⟨C,t,vs,tds',hC,hx,ht,hp,z⟩ | ⟨v1,v2,a',b',hx,h1,h2,z⟩ | ⟨v1,a',hx,h1,e⟩
  ·exact .inl ⟨e,.inl (s _ _ hx)⟩
  ·exact .inl ⟨e,.inr ⟨r,s _ _ hx⟩⟩
  ·exact .inr (.inl ⟨C,t,vs,tds',hC,s _ _ hx,s _ _ ht,Paired.mapP hp fun _ _ z=>aaX s n z,z⟩)
  ·exact .inr (.inr (.inl ⟨v1,v2,a',b',s _ _ hx,aaX s n h1,aaX s n h2,z⟩))
  ·exact .inr (.inr (.inr ⟨v1,a',s _ _ hx,aaX s n h1,e⟩))
theorem lk1{a b:Str}{v:V}(h:(a==b)=false):([(b,v)]:List (Str×V)).lookup a=none:=by simp[List.lookup,h]
theorem lk2{a b c:Str}{v u:V}(h:(a==b)=false)(h':(a==c)=false):([(b,v),(c,u)]:List (Str×V)).lookup a=none:=by simp[List.lookup,h,h']
noncomputable def spL(C:Addr)(sp0:Sp):Sp:=fun vs H Q _=>∃(x dx:Addr) (v1 v2:V),vs=[.ref x]/\H x=some (.ins C dx [("one",v1),("other",v2)])/\∀l,H l=none->sp0 [.ref l] (upd H l (.lst [v1,v2])) Q E0
noncomputable def spU(C:Addr)(sp0:Sp):Sp:=fun vs H Q _=>∃(x dx:Addr) (v1:V),vs=[.ref x]/\H x=some (.ins C dx [("one",v1)])/\∀l,H l=none->sp0 [.ref l] (upd H l (.lst [v1])) Q E0
theorem asR{α β:Type}{F G:α->β->Prop}:∀{l:List α} {r:List β},Paired F l r->(∀a b,b∈r->F a b->G a b)->Paired G l r
 |_,_,.nil,_=>.nil
 |_,_,.cons f t,h=>.cons (h _ _ (bO ..) f) (asR t fun a b hb=>h a b (bF _ hb))
theorem acZ{CB CO CJ CM CL CT:Addr}{H:Hp}:∀{n:Nat} {v:V} {td:Int×Int},acD CB CO CJ CM CL CT n H v td->1<=td.2/\1<=td.1/\∀k:Nat,td.2<=(k:Int)->acD CB CO CJ CM CL CT k H v td
 |0,_,_,h=>h.elim
 |n+1,v,td,h=>by
  obtain⟨x,dx,rfl,h⟩:=h
  rcases h with ⟨e,hx⟩ | ⟨C,t,vs,tds',hC,hx,ht,hp,h0,h8,e1,e2,e3⟩ | ⟨v1,v2,a',b',hx,h1,h2,e1,e2,e3⟩ | ⟨v1,a',hx,h1,e⟩
  ·refine⟨by rw[e];decide,by rw[e];decide,fun k hk=>?_⟩
   rw[e] at hk
   match k,hk with
   |k+1,_=>exact⟨x,dx,rfl,.inl ⟨e,hx⟩⟩
  ·obtain⟨c,hc,ec⟩:=bR.mp e3
   obtain⟨u,_,hu⟩:=abL hp c hc
   have z:=acZ hu
   refine⟨by omega,?_,fun k hk=>?_⟩
   ·have:0<=(tds'.map Prod.fst).sum:=asY fun i hi=>by
     obtain⟨c,hc,ec⟩:=bR.mp hi
     obtain⟨u,_,hu⟩:=abL hp c hc
     have:=(acZ hu).2.1
     omega
    omega
   ·match k,hk with
    |0,hk=>have:((0:Nat):Int)=0:=rfl;omega
    |k+1,hk=>exact⟨x,dx,rfl,.inr (.inl ⟨C,t,vs,tds',hC,hx,ht,asR hp fun a b hb z=>(acZ z).2.2 k (by have:=e2 b.2 (bR.mpr ⟨b,hb,rfl⟩);omega),h0,h8,e1,e2,e3⟩)⟩
  ·have z1:=acZ h1
   have z2:=acZ h2
   refine⟨by omega,by omega,fun k hk=>?_⟩
   match k,hk with
   |0,hk=>have:((0:Nat):Int)=0:=rfl;omega
   |k+1,hk=>exact⟨x,dx,rfl,.inr (.inr (.inl ⟨v1,v2,a',b',hx,z1.2.2 k (by omega),z2.2.2 k (by omega),e1,e2,e3⟩))⟩
  ·have z1:=acZ h1
   have ea:td.1=1+a'.1/\td.2=1+a'.2:=by rw[e];exact⟨rfl,rfl⟩
   refine⟨by omega,by omega,fun k hk=>?_⟩
   match k,hk with
   |0,hk=>have:((0:Nat):Int)=0:=rfl;omega
   |k+1,hk=>exact⟨x,dx,rfl,.inr (.inr (.inr ⟨v1,a',hx,z1.2.2 k (by omega),e⟩))⟩
theorem aE3{CB CO CJ CM CL CT:Addr}{K:FG}{H:Hp}{n:Nat}{v:V}{td:Int×Int}(fB:BF K CB CB true)(fO:BF K CB CO true)(fJ:BF K CB CJ true)(fM:BF K CB CM true)(fL:BF K CB CL true)(fT:BF K CB CT true)(h:acD CB CO CJ CM CL CT n H v td):IsB K CB H v true:=by
 cases n with
 |zero=>exact h.elim
 |succ n=>
  obtain⟨x,dx,rfl,h⟩:=h
  rcases h with ⟨e,hx | ⟨r,hx⟩⟩ | ⟨C,t,vs,tds',rfl | rfl,hx,_⟩ | ⟨v1,v2,a',b',hx,_⟩ | ⟨v1,a',hx,_⟩
  ·exact fB.is hx
  ·exact fO.is hx
  ·exact fJ.is hx
  ·exact fM.is hx
  ·exact fL.is hx
  ·exact fT.is hx
noncomputable def Vd(K:FG)(CB CO CJ CM CL CT:Addr)(H:Hp)(us:List V):Option (Int×Int)->Prop
 |none=>((∀v∈us,∃b,IsB K CB H v b)/\∃v∈us,IsB K CB H v false)∨∃tds,Paired (acD CB CO CJ CM CL CT 6 H) us tds/\0<us.length/\(24<1+(tds.map Prod.fst).sum∨∃m∈tds.map Prod.snd,5<=m)
 |some td=>∃tds,Paired (acD CB CO CJ CM CL CT 6 H) us tds/\0<us.length/\td.1=1+(tds.map Prod.fst).sum/\td.1<=24/\(∀m∈tds.map Prod.snd,m<td.2)/\td.2-1∈tds.map Prod.snd/\td.2<=5
theorem acI{K:FG}{CB CO CJ CM CL CT:Addr}{H H':Hp}{us:List V}(s:Same H H'):∀{r:Option (Int×Int)},Vd K CB CO CJ CM CL CT H us r->Vd K CB CO CJ CM CL CT H' us r
 |none,.inl ⟨h1,v,hv,h2⟩=>.inl ⟨fun v hv=>let ⟨b,hb⟩:=h1 v hv;⟨b,hb.keep s⟩,v,hv,h2.keep s⟩
 |none,.inr ⟨tds,h,z⟩=>.inr ⟨tds,Paired.mapP h fun _ _ z=>aaX s 6 z,z⟩
 |some _,⟨tds,h,z⟩=>⟨tds,Paired.mapP h fun _ _ z=>aaX s 6 z,z⟩
noncomputable def aNE(K:FG)(CB CO CJ CM CL CT:Addr)(H:Hp)(v:V):Prop:=(∃k,aCH K H v k/\k≠ .list)∨∃a us,v=.ref a/\SqL K H a us/\us.length<=9/\((us.length=0∨us.length=9)∨Vd K CB CO CJ CM CL CT H us none)
noncomputable def aNZ(K:FG)(CN CB CO CJ CM CL CT:Addr):Sp:=fun vs H Q E=>∃(a:Addr) (us:List V) (r:Option (Int×Int)),vs=[.ref a]/\SqL K H a us/\us.length<=9/\Vd K CB CO CJ CM CL CT H us r/\(r=none->∀H',Same H H'->E (.ref CN) none H')/\(∀td,r=some td->∀t H',Same H H'->H' t=some (.tup us)->Q (.ref t) H')
noncomputable def aIZ(K:FG)(CN CB CO CJ CM CL CT:Addr):Sp:=fun vs H Q E=>∃v:V,vs=[v]/\((aNE K CB CO CJ CM CL CT H v/\∀H',Same H H'->E (.ref CN) none H')∨∃a us td,v=.ref a/\SqL K H a us/\us.length<=8/\Vd K CB CO CJ CM CL CT H us (some td)/\∀t H',Same H H'->H' t=some (.tup us)->Q (.ref t) H')
noncomputable def aH0(K:FG)(C CN CR:Addr):Sp:=fun vs H Q E=>∃(p dx:Addr) (v:V),vs=[.ref p,v]/\H p=some (.ins C dx [])/\((IsB K CR H v false/\∀H',Same H H'->E (.ref CN) none H')∨(IsB K CR H v true/\∀H',H'=upd H p (.ins C dx [("row",v)])->Q .non H'))
noncomputable def asT(K:FG)(C CN CB CO CJ CM CL CT:Addr):Sp:=fun vs H Q E=>∃(p dx:Addr) (v:V),vs=[.ref p,v]/\H p=some (.ins C dx [])/\((aNE K CB CO CJ CM CL CT H v/\∀H',Same H H'->E (.ref CN) none H')∨∃a us td,v=.ref a/\SqL K H a us/\us.length<=8/\Vd K CB CO CJ CM CL CT H us (some td)/\∀t H',H' p=some (.ins C dx [("books",.ref t)])->H' t=some (.tup us)->(∀b o,H b=some o->b≠p->H' b=some o)->Q .non H')
noncomputable def aBR(K:FG)(C CN CB CO CJ CM CL CT:Addr):Sp:=fun vs H Q E=>∃(p dx:Addr) (v u:V),vs=[.ref p,v,u]/\H p=some (.ins C dx [])/\((Vd K CB CO CJ CM CL CT H [v,u] none/\∀H',Same H H'->E (.ref CN) none H')∨∃td,Vd K CB CO CJ CM CL CT H [v,u] (some td)/\∀H',H' p=some (.ins C dx [("one",v),("other",u)])->(∀b o,H b=some o->b≠p->H' b=some o)->Q .non H')
noncomputable def aAK(K:FG)(C CN CB CO CJ CM CL CT:Addr):Sp:=fun vs H Q E=>∃(p dx:Addr) (v:V),vs=[.ref p,v]/\H p=some (.ins C dx [])/\((Vd K CB CO CJ CM CL CT H [v] none/\∀H',Same H H'->E (.ref CN) none H')∨∃td,Vd K CB CO CJ CM CL CT H [v] (some td)/\∀H',H' p=some (.ins C dx [("one",v)])->(∀b o,H b=some o->b≠p->H' b=some o)->Q .non H')
section
variable{K:FG}{CN CR CB CO CJ CM CL CT x dx:Addr}{H:Hp}{v u:V}{Q:VK}{E:XK}
theorem mkO(h:IsB K CR H v true)(q:∀H',Same H H'->acD CB CO CJ CM CL CT 6 H' (.ref x) (1,1)->H' x=some (.ins CO dx [("row",v)])->Q .non H')(nx:H x=none)(nd:H dx=none):aH0 K CO CN CR (.ref x::([v]++[])) (upd (upd H dx (.own x)) x (.ins CO dx [])) Q E:=
 have s:=ab0 (a:=.own x) (b:=.ins CO dx []) nx nd
 ⟨x,dx,v,rfl,aaA,.inr ⟨h.keep s,fun H' e=>q H' (e▸ab2 nx s) ⟨x,dx,rfl,.inl ⟨rfl,.inr ⟨v,e▸aaA⟩⟩⟩ (e▸aaA)⟩⟩
theorem mkJ{C a:Addr}{us:List V}{td:Int×Int}(hC:C=CJ∨C=CM)(hS:SqL K H a us)(hl:us.length<=8)(h:Vd K CB CO CJ CM CL CT H us (some td))(q:∀H',Same H H'->acD CB CO CJ CM CL CT 6 H' (.ref x) td->(∃dx t,H' x=some (.ins C dx [("books",.ref t)])/\H' t=some (.tup us))->Q .non H')(nx:H x=none)(nd:H dx=none):asT K C CN CB CO CJ CM CL CT (.ref x::([.ref a]++[])) (upd (upd H dx (.own x)) x (.ins C dx [])) Q E:=
 have s:=ab0 (a:=.own x) (b:=.ins C dx []) nx nd
 ⟨x,dx,.ref a,rfl,aaA,.inr ⟨a,us,td,rfl,s.seq hS,hl,acI s h,fun t H' hx ht hs=>by
  have s':=amW nx nd hs
  obtain⟨tds,hp,h0,e1,_,e2,e3,e5⟩:=acI s' h
  exact q H' s' ⟨x,dx,rfl,.inr (.inl ⟨C,t,us,tds,hC,hx,ht,asR hp fun a b hb z=>(acZ z).2.2 5 (by have:=e2 b.2 (bR.mpr ⟨b,hb,rfl⟩);show b.2<=5;omega),h0,hl,e1,e2,e3⟩)⟩ ⟨dx,t,hx,ht⟩⟩⟩
theorem mkL{td:Int×Int}(h:Vd K CB CO CJ CM CL CT H [v,u] (some td))(q:∀H',Same H H'->acD CB CO CJ CM CL CT 6 H' (.ref x) td->H' x=some (.ins CL dx [("one",v),("other",u)])->Q .non H')(nx:H x=none)(nd:H dx=none):aBR K CL CN CB CO CJ CM CL CT (.ref x::([v,u]++[])) (upd (upd H dx (.own x)) x (.ins CL dx [])) Q E:=
 have s:=ab0 (a:=.own x) (b:=.ins CL dx []) nx nd
 ⟨x,dx,v,u,rfl,aaA,.inr ⟨td,acI s h,fun H' hx hs=>by
  have s':=amW nx nd hs
  obtain⟨tds,hp,h0,e1,_,e2,e3,e5⟩:=acI s' h
  obtain⟨a,b,rfl,h1,h2⟩:=aC4 hp
  have m1:=e2 a.2 (by simp)
  have m2:=e2 b.2 (by simp)
  have m3:td.2-1=a.2∨td.2-1=b.2:=by simpa using e3
  have m4:td.1=1+(a.1+b.1):=by simpa using e1
  exact q H' s' ⟨x,dx,rfl,.inr (.inr (.inl ⟨v,u,a,b,hx,(acZ h1).2.2 5 (by show a.2<=5;omega),(acZ h2).2.2 5 (by show b.2<=5;omega),m4,⟨m1,m2⟩,m3⟩))⟩ hx⟩⟩
theorem mkT{td:Int×Int}(h:Vd K CB CO CJ CM CL CT H [v] (some td))(q:∀H',Same H H'->acD CB CO CJ CM CL CT 6 H' (.ref x) td->H' x=some (.ins CT dx [("one",v)])->Q .non H')(nx:H x=none)(nd:H dx=none):aAK K CT CN CB CO CJ CM CL CT (.ref x::([v]++[])) (upd (upd H dx (.own x)) x (.ins CT dx [])) Q E:=
 have s:=ab0 (a:=.own x) (b:=.ins CT dx []) nx nd
 ⟨x,dx,v,rfl,aaA,.inr ⟨td,acI s h,fun H' hx hs=>by
  have s':=amW nx nd hs
  obtain⟨tds,hp,h0,e1,_,e2,e3,e5⟩:=acI s' h
  obtain⟨a,rfl,h1⟩:=ay1 hp
  have m3:td.2-1=a.2:=by simpa using e3
  have m4:td.1=1+a.1:=by simpa using e1
  exact q H' s' ⟨x,dx,rfl,.inr (.inr (.inr ⟨v,a,hx,(acZ h1).2.2 5 (by show a.2<=5;omega),Prod.ext m4 (by show td.2=1+a.2;omega)⟩))⟩ hx⟩⟩
theorem mkB(x dx:Addr)(H:Hp):acD CB CO CJ CM CL CT 6 (upd (upd H dx (.own x)) x (.ins CB dx [])) (.ref x) (1,1):=⟨x,dx,rfl,.inl ⟨rfl,.inl aaA⟩⟩
end
noncomputable def dIn(m3:Int)(kd kw:Option (List Mk))(k:Int):Int:=if tb m3 (mnA k).toNat=true then aoC kd kw (lnA k) (k%7) else 0
noncomputable def acO(tm m3:Int)(kd kw:Option (List Mk))(k:Int)(j:Nat):Int:=if tb (dIn m3 kd kw k) (j+1)=true then tm else 0
noncomputable def aa2(f:Int->Nat->Int)(k:Int):List Int:=(List.range (lnA k).toNat).map (f k)
noncomputable def allT:Int:=1*2^(1440:Int).toNat-1
theorem aB7{c:Cs}{H:Hp}{v:V}{ko:Option (List Mk)}(h:DV c H v ko):∀ks,ko=some ks->∀k∈ks,k.ok:=fun ks e=>by
 subst e
 obtain⟨_,_,_,_,_,z⟩:=h
 exact z
theorem ay8{c:Cs}{H:Hp}{dv wv:V}{m3 k:Int}{kd kw:Option (List Mk)}(hd:DV c H dv kd)(hw:DV c H wv kw)(h0:0<=k)(h1:k<=90):0<=dIn m3 kd kw k:=by
 have ml:=(afJ h0 h1).2
 unfold dIn
 split
 ·unfold aoC
  split
  ·have:(0:Int)<2^(lnA k).toNat:=acL _
   omega
  ·exact ax2 (b:=false) ml (aB7 hw) (ax2 (b:=false) ml (aB7 hd) (a8 0))
 ·exact a8 0
noncomputable def aBZ(c:Cs)(CR:Addr)(H:Hp)(v:V)(f:Int->Nat->Int):Prop:=∃(x dx:Addr) (m0 m1 m3 tm:Int) (dv wv:V) (kd kw:Option (List Mk)),v=.ref x/\H x=some (.ins CR dx (ab7 m0 m1 dv m3 wv tm))/\0<=m3/\DV c H dv kd/\DV c H wv kw/\f=acO tm m3 kd kw
theorem aBJ{c:Cs}{CR:Addr}{H H':Hp}{v:V}{f:Int->Nat->Int}(s:Same H H')(h:aBZ c CR H v f):aBZ c CR H' v f:=by
 obtain⟨x,dx,m0,m1,m3,tm,dv,wv,kd,kw,e,hx,h3,hd,hw,ef⟩:=h
 exact⟨x,dx,m0,m1,m3,tm,dv,wv,kd,kw,e,s _ _ hx,h3,hd.keep s,hw.keep s,ef⟩
noncomputable def orF(fs:List (Int->Nat->Int))(k:Int)(j:Nat):Int:=fs.foldl (fun a g=>Builtin.bitOr a (g k j)) 0
noncomputable def anF(fs:List (Int->Nat->Int))(k:Int)(j:Nat):Int:=fs.foldl (fun a g=>Builtin.bitAnd a (g k j)) allT
noncomputable abbrev DF:=Int->Nat->Int
noncomputable def wB(CB:Addr)(H:Hp)(x:Addr)(f:DF):Prop:=∃dx,H x=some (.ins CB dx [])/\f=fun _ _=>0
noncomputable def wO(c:Cs)(CR CO:Addr)(H:Hp)(x:Addr)(f:DF):Prop:=∃dx r,H x=some (.ins CO dx [("row",r)])/\aBZ c CR H r f
noncomputable def wJ(g:List DF->DF)(CJ:Addr)(B:V->DF->Prop)(H:Hp)(x:Addr)(f:DF):Prop:=∃(dx t:Addr) (vs:List V) (fs:List DF),H x=some (.ins CJ dx [("books",.ref t)])/\H t=some (.tup vs)/\Paired B vs fs/\f=g fs
noncomputable def wL(CL:Addr)(B:V->DF->Prop)(H:Hp)(x:Addr)(f:DF):Prop:=∃(dx:Addr) (v1 v2:V) (a b:DF),H x=some (.ins CL dx [("one",v1),("other",v2)])/\B v1 a/\B v2 b/\f=fun k j=>Builtin.bitAnd (a k j) (Builtin.bitNot (b k j))
noncomputable def wT(CT:Addr)(B:V->DF->Prop)(H:Hp)(x:Addr)(f:DF):Prop:=∃(dx:Addr) (v1:V) (a:DF),H x=some (.ins CT dx [("one",v1)])/\B v1 a/\f=fun k j=>Builtin.bitXor allT (a k j)
noncomputable def acN(c:Cs)(CR CB CO CJ CM CL CT:Addr):Nat->Hp->V->DF->Prop
 |0,_,_,_=>False
 |n+1,H,v,f=>∃x,v=.ref x/\(wB CB H x f∨wO c CR CO H x f∨wJ orF CJ (acN c CR CB CO CJ CM CL CT n H) H x f∨wJ anF CM (acN c CR CB CO CJ CM CL CT n H) H x f∨wL CL (acN c CR CB CO CJ CM CL CT n H) H x f∨wT CT (acN c CR CB CO CJ CM CL CT n H) H x f)
theorem abV{c:Cs}{CR CB CO CJ CM CL CT:Addr}{H H':Hp}(s:Same H H'):∀(n:Nat) {v:V} {f:DF},acN c CR CB CO CJ CM CL CT n H v f->acN c CR CB CO CJ CM CL CT n H' v f
 |0,_,_,h=>h
 |n+1,_,_,h=>by
  obtain⟨x,rfl,h⟩:=h
  refine⟨x,rfl,?_⟩
  rcases h with ⟨dx,hx,e⟩ | ⟨dx,r,hx,hr⟩ | ⟨dx,t,vs,fs,hx,ht,hp,e⟩ | ⟨dx,t,vs,fs,hx,ht,hp,e⟩ | ⟨dx,v1,v2,a,b,hx,h1,h2,e⟩ | ⟨dx,v1,a,hx,h1,e⟩
  ·exact .inl ⟨dx,s _ _ hx,e⟩
  ·exact .inr (.inl ⟨dx,r,s _ _ hx,aBJ s hr⟩)
  ·exact .inr (.inr (.inl ⟨dx,t,vs,fs,s _ _ hx,s _ _ ht,Paired.mapP hp fun _ _ z=>abV s n z,e⟩))
  ·exact .inr (.inr (.inr (.inl ⟨dx,t,vs,fs,s _ _ hx,s _ _ ht,Paired.mapP hp fun _ _ z=>abV s n z,e⟩)))
  ·exact .inr (.inr (.inr (.inr (.inl ⟨dx,v1,v2,a,b,s _ _ hx,abV s n h1,abV s n h2,e⟩))))
  ·exact .inr (.inr (.inr (.inr (.inr ⟨dx,v1,a,s _ _ hx,abV s n h1,e⟩))))
noncomputable def spW(W:Nat->Hp->Addr->DF->Prop)(n:Nat):Sp:=fun vs H Q _=>∃(m:Nat) (x:Addr) (kd:Int) (f:DF),n=m+1/\vs=[.ref x,.int kd]/\(0<=kd/\kd<=90)/\W m H x f/\∀D H',Same H H'->H' D=some (.lst ((aa2 f kd).map V.int))->Q (.ref D) H'
structure Mo(P:Program)(w:World)(K:FG)(mg:Str->Option Value)(base:Heap)(c:Cs)(CR CB CO CJ CM CL CT:Addr)(k n:Nat):Prop where
 cB:Cls K CB
 cO:Cls K CO
 cJ:Cls K CJ
 cM:Cls K CM
 cL:Cls K CL
 cT:Cls K CT
 dB:DfM P w K mg base CB "on_days" k ["self","kind"] (spW (fun _=>wB CB) n)
 dO:DfM P w K mg base CO "on_days" k ["self","kind"] (spW (fun _=>wO c CR CO) n)
 dJ:DfM P w K mg base CJ "on_days" k ["self","kind"] (spW (fun m H=>wJ orF CJ (acN c CR CB CO CJ CM CL CT m H) H) n)
 dM:DfM P w K mg base CM "on_days" k ["self","kind"] (spW (fun m H=>wJ anF CM (acN c CR CB CO CJ CM CL CT m H) H) n)
 dL:DfM P w K mg base CL "on_days" k ["self","kind"] (spW (fun m H=>wL CL (acN c CR CB CO CJ CM CL CT m H) H) n)
 dT:DfM P w K mg base CT "on_days" k ["self","kind"] (spW (fun m H=>wT CT (acN c CR CB CO CJ CM CL CT m H) H) n)
noncomputable def Det(ta:TE):Prop:=∀σ H R,ta σ H R->∃v H1,R v H1/\∀R',R' v H1->ta σ H R'
theorem awK{i:Nat}:Det (awS i):=fun _ H _ ⟨v,e,r⟩=>⟨v,H,r,fun _ r'=>⟨v,e,r'⟩⟩
theorem aER{K:FG}{ta:TE}{f:Str}(d:Det ta):Det (aBI K ta f):=fun σ H R h=>by
 obtain⟨v,H1,⟨a,C,dx,fs,u,e,h1,h2,h3,h4,r⟩,back⟩:=d σ H _ h
 exact⟨u,H1,r,fun R' r'=>back _ ⟨a,C,dx,fs,u,e,h1,h2,h3,h4,r'⟩⟩
theorem eMo{X:Cx}{o e:Expr}{ta:TE}{j:Nat}{pos apos:Pos}{c:Cs}{CR CB CO CJ CM CL CT:Addr}{k k' n:Nat}{pl:Sem Bool}(M:Mo X.prog X.w X.K X.mg X.base c CR CB CO CJ CM CL CT k n)(hr:Room k' X.A)(ho:E X o ta)(dt:Det ta)(he:E X e (awS j))(hk:k<=k':=by first | decide | omega)
  (hst:starEach [e] X.env=[(false,eval e X.env)]:=by rfl) (hpl:(backTo pos (starEach [] X.env)).any (·.1)=false:=by rfl)
  (ht:eval (.Call (.Attribute o "on_days" apos) [e] [] pos) X.env=(do
   let ov ←eval o X.env
   standAt apos.atName
   let (f,first) ←holding [ov] (getMethod ov "on_days" pl)
   callWith pos f first (backTo pos (starEach [e] X.env)) (backToKw pos (keywordEach [] X.env))):=by rfl):
  E X (.Call (.Attribute o "on_days" apos) [e] [] pos) (fun σ H Q=>ta σ H fun v H1=>∃kd f,σ[j]? =some (some (.int kd))/\(0<=kd/\kd<=90)/\acN c CR CB CO CJ CM CL CT n H1 v f/\∀D H',Same H1 H'->H' D=some (.lst ((aa2 f kd).map V.int))->Q (.ref D) H'):=by
 have ha:As X [e] (ac0 (awS j) adJ):=aC he aN hst
 refine (abS (eMe M.cB M.dB hr ho ha hk hst hpl ht) (abS (eMe M.cO M.dO hr ho ha hk hst hpl ht) (abS (eMe M.cJ M.dJ hr ho ha hk hst hpl ht) (abS (eMe M.cM M.dM hr ho ha hk hst hpl ht) (abS (eMe M.cL M.dL hr ho ha hk hst hpl ht) (eMe M.cT M.dT hr ho ha hk hst hpl ht)))))).as fun σ H Q h=>?_
 obtain⟨v,H1,⟨kd,f,ek,hkd,hb,q⟩,back⟩:=dt σ H _ h
 cases n with
 |zero=>exact hb.elim
 |succ n=>
  obtain⟨x,rfl,hb⟩:=hb
  rcases hb with hb | hb | hb | hb | hb | hb
  ·obtain⟨dx,hx,_⟩:=id hb
   exact .inl (back _ ⟨x,dx,_,rfl,hx,rfl,_,ek,n,x,kd,f,rfl,rfl,hkd,hb,q⟩)
  ·obtain⟨dx,r,hx,_⟩:=id hb
   exact .inr (.inl (back _ ⟨x,dx,_,rfl,hx,lk1 (by decide +kernel),_,ek,n,x,kd,f,rfl,rfl,hkd,hb,q⟩))
  ·obtain⟨dx,t,vs,fs,hx,_⟩:=id hb
   exact .inr (.inr (.inl (back _ ⟨x,dx,_,rfl,hx,lk1 (by decide +kernel),_,ek,n,x,kd,f,rfl,rfl,hkd,hb,q⟩)))
  ·obtain⟨dx,t,vs,fs,hx,_⟩:=id hb
   exact .inr (.inr (.inr (.inl (back _ ⟨x,dx,_,rfl,hx,lk1 (by decide +kernel),_,ek,n,x,kd,f,rfl,rfl,hkd,hb,q⟩))))
  ·obtain⟨dx,v1,v2,a,b,hx,_⟩:=id hb
   exact .inr (.inr (.inr (.inr (.inl (back _ ⟨x,dx,_,rfl,hx,lk2 (by decide +kernel) (by decide +kernel),_,ek,n,x,kd,f,rfl,rfl,hkd,hb,q⟩)))))
  ·obtain⟨dx,v1,a,hx,_⟩:=id hb
   exact .inr (.inr (.inr (.inr (.inr (back _ ⟨x,dx,_,rfl,hx,lk1 (by decide +kernel),_,ek,n,x,kd,f,rfl,rfl,hkd,hb,q⟩)))))
theorem abT(f:Int->Nat->Int)(k:Int):(aa2 f k).length=(lnA k).toNat:=by unfold aa2;rw[aU,dG]
theorem ajI{f:Int->Nat->Int}{k:Int}{i:Nat}{x:V}(h:((aa2 f k).map V.int)[i]? =some x):x=.int (f k i)/\i<(lnA k).toNat:=by
 have hi:i<(lnA k).toNat:=by
  have:=(cE.mp h).1
  rwa [aU,abT] at this
 refine⟨?_,hi⟩
 unfold aa2 at h
 rw[cD,bE,dA hi] at h
 exact (bA h).symm
theorem ayB{i k:Int}:(List.replicate (lnA k).toNat [V.int i]).flatten=(aa2 (fun _ _=>i) k).map V.int:=by
 unfold aa2
 generalize (lnA k).toNat=n
 induction n with
 |zero=>rfl
 |succ n ih=>rw[List.replicate_succ',List.flatten_append,ih,cC,aZ,aZ];rfl
theorem orFs{fs:List DF}{i:Nat}{g:DF}{k:Int}{j:Nat}(h:fs[i]? =some g):orF (fs.take (i+1)) k j=Builtin.bitOr (orF (fs.take i) k j) (g k j):=by
 unfold orF
 rw[bK,h,dF]
 rfl
theorem anFs{fs:List DF}{i:Nat}{g:DF}{k:Int}{j:Nat}(h:fs[i]? =some g):anF (fs.take (i+1)) k j=Builtin.bitAnd (anF (fs.take i) k j) (g k j):=by
 unfold anF
 rw[bK,h,dF]
 rfl
theorem aoA{k:Int}(h0:0<=k)(h1:k<=90):(lnA k).toNat<=31:=by have:=(afJ h0 h1).2.1;omega
noncomputable def abK(t:Int):Prop:=0<=t/\t<2^1440
theorem akN:abK 0:=⟨a8 0,by decide +kernel⟩
theorem aI0{t m z:Int}(ht:abK t)(hm:0<=m/\m<2^60)(h0:0<=z)(hn:z<24):abK (Builtin.bitOr t (m*2^(60*z).toNat)):=by
 obtain⟨n,rfl⟩:=bH h0
 have e:(60*(n:Int)).toNat=60*n:=by omega
 rw[e]
 have p:=acL (60*n)
 have h0:0<=m*2^(60*n):=Int.mul_nonneg hm.1 (Int.le_of_lt p)
 refine⟨agG ht.1 h0,aCI ht.1 h0 ht.2 ?_⟩
 have h1:m*2^(60*n)<2^60*2^(60*n):=Int.mul_lt_mul_of_pos_right hm.2 p
 have h2:(2:Int)^60*2^(60*n)=2^(60+60*n):=(Int.pow_add ..).symm
 have h3:(2:Int)^(60+60*n)<=2^1440:=by
  rw[←abG,←abG]
  exact Int.ofNat_le.mpr (Nat.pow_le_pow_right (by decide) (by omega))
 omega
noncomputable def Wt(f:DF):Prop:=∀k j,abK (f k j)
theorem au1:allT=2^1440-1:=by
 unfold allT
 rw[show ((1440:Int).toNat)=1440 from rfl,Int.one_mul]
theorem ag7(i:Nat):tb allT i=decide (i<1440):=by rw[au1];exact ap1 1440 i
theorem ab3:abK allT:=by
 rw[au1]
 have:=acL 1440
 exact⟨by omega,by omega⟩
theorem ai9{t:Int}(h:abK t){i:Nat}(e:tb t i=true):i<1440:=by
 rcases Nat.lt_or_ge i 1440 with z | z
 ·exact z
 ·rw[akL h.2 z] at e
  cases e
theorem ay4{t:Int}(h0:0<=t)(h:∀i,tb t i=true->i<1440):abK t:=⟨h0,ay0 h0 h⟩
theorem anS{a b:Int}(ha:0<=a)(hb:0<=b):0<=Builtin.bitAnd a (Builtin.bitNot b):=by
 have h1:¬0<=Builtin.bitNot b:=by unfold Builtin.bitNot;omega
 unfold Builtin.bitAnd
 rw[d6 ha,d8 h1]
 show 0<=a-((a.toNat&&& (Builtin.bitNot (Builtin.bitNot b)).toNat:Nat):Int)
 have:=Nat.and_le_left (n:=a.toNat) (m:=(Builtin.bitNot (Builtin.bitNot b)).toNat)
 omega
theorem arJ(x y i:Nat):(x-(x&&& y)).testBit i=(x.testBit i&& !y.testBit i):=by
 have e:x-(x&&& y)=x^^^(x&&& y):=by
  have h:(x^^^(x&&& y))+(x&&& y)=x:=by
   have h1:(x^^^(x&&& y))&&& (x&&& y)=0:=by
    apply Nat.eq_of_testBit_eq
    intro j
    rw[Nat.testBit_and,Nat.testBit_xor,Nat.testBit_and,Nat.zero_testBit]
    cases x.testBit j<;>cases y.testBit j<;>rfl
   have h2:(x^^^(x&&& y))||| (x&&& y)=x:=by
    apply Nat.eq_of_testBit_eq
    intro j
    rw[Nat.testBit_or,Nat.testBit_xor,Nat.testBit_and]
    cases x.testBit j<;>cases y.testBit j<;>rfl
   have h3:=nat_or_add_and (x^^^(x&&& y)) (x&&& y)
   rw[h1,h2] at h3
   omega
  omega
 rw[e,Nat.testBit_xor,Nat.testBit_and]
 cases x.testBit i<;>cases y.testBit i<;>rfl
theorem afL{a b:Int}(ha:0<=a)(hb:0<=b)(i:Nat):tb (Builtin.bitAnd a (Builtin.bitNot b)) i=(tb a i&& !tb b i):=by
 have h1:¬0<=Builtin.bitNot b:=by unfold Builtin.bitNot;omega
 have e:Builtin.bitAnd a (Builtin.bitNot b)=a-((a.toNat&&& b.toNat:Nat):Int):=by
  unfold Builtin.bitAnd
  rw[d6 ha,d8 h1]
  show a-((a.toNat&&& (Builtin.bitNot (Builtin.bitNot b)).toNat:Nat):Int)=_
  rw[show Builtin.bitNot (Builtin.bitNot b)=b by unfold Builtin.bitNot;omega]
 rw[e]
 obtain⟨x,rfl⟩:=bH ha
 obtain⟨y,rfl⟩:=bH hb
 unfold tb
 rw[bP,bP,←arJ]
 congr 1
 have:=Nat.and_le_left (n:=x) (m:=y)
 omega
theorem aDZ{a b:Int}(ha:0<=a)(hb:0<=b):0<=Builtin.bitXor a b:=by
 obtain⟨x,rfl⟩:=bH ha
 obtain⟨y,rfl⟩:=bH hb
 unfold Builtin.bitXor
 rw[aoQ,aoP]
 have h1:=Nat.and_le_left (n:=x) (m:=y)
 have h2:=Nat.left_le_or (n:=x) (m:=y)
 omega
theorem aoL{a:Int}(ha:abK a)(i:Nat):tb (Builtin.bitXor allT a) i=(decide (i<1440)&& !tb a i):=by
 have e:Builtin.bitXor allT a=Builtin.bitAnd allT (Builtin.bitNot a):=by
  have ha0:=ha.1
  have h1:¬0<=Builtin.bitNot a:=by unfold Builtin.bitNot;omega
  unfold Builtin.bitXor
  have eo:Builtin.bitOr allT a=allT:=abZ (agG ab3.1 ha.1) ab3.1 fun j=>by
   rw[alQ ab3.1 ha.1,ag7]
   cases c:tb a j
   ·rw[Bool.or_false]
   ·rw[d6 (ai9 ha c)];rfl
  rw[eo]
  conv=>rhs;unfold Builtin.bitAnd
  rw[d6 ab3.1,d8 h1]
  show allT-Builtin.bitAnd allT a=allT-((allT.toNat&&& (Builtin.bitNot (Builtin.bitNot a)).toNat:Nat):Int)
  rw[show Builtin.bitNot (Builtin.bitNot a)=a by unfold Builtin.bitNot;omega,bitAnd_pp ab3.1 ha.1]
 rw[e,afL ab3.1 ha.1,ag7]
theorem ayW{a:Int}(ha:abK a):allT-a=Builtin.bitXor allT a:=by
 have eo:Builtin.bitOr allT a=allT:=abZ (agG ab3.1 ha.1) ab3.1 fun j=>by
  rw[alQ ab3.1 ha.1,ag7]
  cases c:tb a j
  ·rw[Bool.or_false]
  ·rw[d6 (ai9 ha c)];rfl
 have ea:Builtin.bitAnd allT a=a:=abZ (agU ab3.1 ha.1) ha.1 fun j=>by
  rw[adA ab3.1 ha.1,ag7]
  cases c:tb a j
  ·rw[Bool.and_false]
  ·rw[d6 (ai9 ha c)];rfl
 unfold Builtin.bitXor
 rw[eo,ea]
theorem at4{a:Int}(ha:abK a):abK (Builtin.bitXor allT a):=ay4 (aDZ ab3.1 ha.1) fun i e=>by
 rw[aoL ha] at e
 exact d5 (Bool.and_eq_true_iff.mp e).1
theorem ayE{a b:Int}(ha:abK a)(hb:abK b):abK (Builtin.bitOr a b):=⟨agG ha.1 hb.1,aCI ha.1 hb.1 ha.2 hb.2⟩
theorem ao5{a b:Int}(ha:abK a)(hb:0<=b):abK (Builtin.bitAnd a b):=ay4 (agU ha.1 hb) fun i e=>by
 rw[adA ha.1 hb] at e
 exact ai9 ha (Bool.and_eq_true_iff.mp e).1
theorem avB{a b:Int}(ha:abK a)(hb:abK b):abK (Builtin.bitAnd a (Builtin.bitNot b)):=ay4 (anS ha.1 hb.1) fun i e=>by
 rw[afL ha.1 hb.1] at e
 exact ai9 ha (Bool.and_eq_true_iff.mp e).1
theorem aBN{a b:Int}(ha:abK a)(hb:abK b):Builtin.bitAnd a (allT-b)=Builtin.bitAnd a (Builtin.bitNot b):=by
 rw[ayW hb]
 refine abZ (agU ha.1 (at4 hb).1) (anS ha.1 hb.1) fun i=>?_
 rw[adA ha.1 (at4 hb).1,aoL hb,afL ha.1 hb.1]
 cases c:tb a i
 ·rfl
 ·rw[d6 (ai9 ha c),Bool.true_and]
theorem ao4{a:Int}(ha:abK a):Builtin.bitAnd allT a=a:=abZ (agU ab3.1 ha.1) ha.1 fun j=>by
 rw[adA ab3.1 ha.1,ag7]
 cases c:tb a j
 ·rw[Bool.and_false]
 ·rw[d6 (ai9 ha c)];rfl
theorem aKT{a:Int}(ha:0<=a):Builtin.bitOr 0 a=a:=abZ (agG (a8 0) ha) ha fun j=>by rw[alQ (a8 0) ha,acJ,Bool.false_or]
theorem akW{g:Int->Int->Int}(hg:∀{a b:Int},abK a->abK b->abK (g a b))(k:Int)(j:Nat):∀(fs:List DF) (a:Int),abK a->(∀f∈fs,Wt f)->abK (fs.foldl (fun a f=>g a (f k j)) a)
 |[],_,h,_=>h
 |f::r,a,h,hf=>akW hg k j r _ (hg h (hf f (bO ..) k j)) fun z hz=>hf z (bF _ hz)
theorem aCM{fs:List DF}(h:∀f∈fs,Wt f):Wt (orF fs):=fun k j=>akW ayE k j fs 0 akN h
theorem awX{fs:List DF}(h:∀f∈fs,Wt f):Wt (anF fs):=fun k j=>akW (fun ha hb=>ao5 ha hb.1) k j fs allT ab3 h
theorem aII:Wt (fun _ _=>0):=fun _ _=>akN
theorem aC2{f g:DF}(hf:Wt f)(hg:Wt g):Wt (fun k j=>Builtin.bitAnd (f k j) (Builtin.bitNot (g k j))):=fun k j=>avB (hf k j) (hg k j)
theorem aC1{f:DF}(hf:Wt f):Wt (fun k j=>Builtin.bitXor allT (f k j)):=fun k j=>at4 (hf k j)
theorem aaO{ds ss:List Int}{z:Int}(h:Digs ds (z::ss)):∃d r,ds=d::r/\(0<=d/\d<z)/\Digs r ss:=by
 cases h with
 |cons h t=>exact⟨_,_,rfl,h,t⟩
theorem akP{ds:List Int}(h:Digs ds []):ds=[]:=by cases h;rfl
theorem aHT{ds:List Int}(h:Digs ds [8,2,12,31,10,8,5,7,12,12,9,7,24,24,9,7,60,60,9]):∃x0 x1 x2 x3 x4 x5 x6 x7 x8 x9 x10 x11 x12 x13 x14 x15 x16 x17 x18:Int,ds=[x0,x1,x2,x3,x4,x5,x6,x7,x8,x9,x10,x11,x12,x13,x14,x15,x16,x17,x18]/\(0<=x0/\x0<8)/\(0<=x1/\x1<2)/\(0<=x2/\x2<12)/\(0<=x3/\x3<31)/\(0<=x4/\x4<10)/\(0<=x5/\x5<8)/\(0<=x6/\x6<5)/\(0<=x7/\x7<7)/\(0<=x8/\x8<12)/\(0<=x9/\x9<12)/\(0<=x10/\x10<9)/\(0<=x11/\x11<7)/\(0<=x12/\x12<24)/\(0<=x13/\x13<24)/\(0<=x14/\x14<9)/\(0<=x15/\x15<7)/\(0<=x16/\x16<60)/\(0<=x17/\x17<60)/\(0<=x18/\x18<9):=by
 obtain⟨x0,r0,rfl,h0,h⟩:=aaO h
 obtain⟨x1,r1,rfl,h1,h⟩:=aaO h
 obtain⟨x2,r2,rfl,h2,h⟩:=aaO h
 obtain⟨x3,r3,rfl,h3,h⟩:=aaO h
 obtain⟨x4,r4,rfl,h4,h⟩:=aaO h
 obtain⟨x5,r5,rfl,h5,h⟩:=aaO h
 obtain⟨x6,r6,rfl,h6,h⟩:=aaO h
 obtain⟨x7,r7,rfl,h7,h⟩:=aaO h
 obtain⟨x8,r8,rfl,h8,h⟩:=aaO h
 obtain⟨x9,r9,rfl,h9,h⟩:=aaO h
 obtain⟨x10,r10,rfl,h10,h⟩:=aaO h
 obtain⟨x11,r11,rfl,h11,h⟩:=aaO h
 obtain⟨x12,r12,rfl,h12,h⟩:=aaO h
 obtain⟨x13,r13,rfl,h13,h⟩:=aaO h
 obtain⟨x14,r14,rfl,h14,h⟩:=aaO h
 obtain⟨x15,r15,rfl,h15,h⟩:=aaO h
 obtain⟨x16,r16,rfl,h16,h⟩:=aaO h
 obtain⟨x17,r17,rfl,h17,h⟩:=aaO h
 obtain⟨x18,r18,rfl,h18,h⟩:=aaO h
 obtain rfl:=akP h
 exact⟨x0,x1,x2,x3,x4,x5,x6,x7,x8,x9,x10,x11,x12,x13,x14,x15,x16,x17,x18,rfl,h0,h1,h2,h3,h4,h5,h6,h7,h8,h9,h10,h11,h12,h13,h14,h15,h16,h17,h18⟩
theorem axR{lo hi:Int}{ws:List (List Nat)}{nss:List (List Int)}(h:Paired (aeB lo hi) ws nss)(hne:ws≠[])(hn:ws.length<=20)(h0:0<=lo)(h1:0<=hi):∃m,FT lo hi (aa1 44 ws) m/\m<2^(hi.toNat+1):=
 ⟨_,aq2 h hne hn,arQ (n:=hi.toNat+1) fun n hn=>by have:=(adE h).2.1 n hn;omega⟩
theorem atM{lo hi a:Int}{t:List Nat}(h:0<=lo/\lo<=a/\a<=hi/\hi<=63)(e:num a.toNat=t):FT lo hi t (abY [a]):=by
 have:=aq2 (ws:=[num a.toNat]) (nss:=[[a]]) (.cons (i1 h.1 h.2.1 h.2.2.1 h.2.2.2) .nil) (bN _ _) (by show 1<=20;decide)
 rw[←e]
 exact this
theorem apS{b:Bool}{w:List Nat}{k:Mk}(h:Cl w/\SpT b w k)(ne:w≠[42])(ho:k.sp=true/\k.wk=b/\k.ok):∃ko,DT b w ko:=
 ⟨_,aCY (ws:=[w]) (.cons h .nil) (bN _ _) (by show 1<=20;decide) (fun z hz=>by rw[bQ.mp hz];exact ne) fun z hz=>by rw[bQ.mp hz];exact ho⟩
theorem auB{b:Bool}{x:Nat×Nat}(h1:lo_ b<=x.1)(h2:x.1<=x.2)(h3:(x.2:Int)<=hi_ b):(plm b x).sp=true/\(plm b x).wk=b/\(plm b x).ok:=by
 have t:=(ap6 h1 h2 h3).2
 cases b with
 |false=>exact⟨rfl,rfl,Int.le_of_lt t.2.2⟩
 |true=>
  obtain⟨_,M,_,hM,e⟩:=t
  refine⟨rfl,rfl,?_⟩
  show 0<=wk7 (afQ x.1 x.2 1)/\wk7 (afQ x.1 x.2 1)<=127
  rw[e]
  exact (aCT hM.1 hM.2).2
theorem aCO{x:Nat×Nat}(h1:x.1<100):rt x≠[42]:=fun e=>by
 unfold rt at e
 have h:=abD (c:=42) h1 (by decide)
 split at e
 ·exact h (by rw[e];exact bQ.mpr rfl)
 ·have:42∈num x.1++45::num x.2:=by rw[e];exact bQ.mpr rfl
  have l:=congrArg List.length e
  rw[aW,bJ] at l
  have:=amT x.1
  cases hn:num x.1 with
  |nil=>exact this hn
  |cons a r=>rw[hn] at l;(simp at l;try omega)
theorem ah1{b:Bool}(x:Nat×Nat)(h1:lo_ b<=x.1)(h2:x.1<=x.2)(h3:(x.2:Int)<=hi_ b):∃ko,DT b (rt x) ko:=apS (ap6 h1 h2 h3) (aCO (by cases b<;>(have:(x.2:Int)<=31:=Int.le_trans h3 (by decide))<;>omega)) (auB h1 h2 h3)
noncomputable def aj8(n:Nat):List (List Nat):=[[42],num n,[42],[76],[76,45]++(if n=31 then [51,48] else num n),num n++[87],[76,87],[50,57],[42],[51,49],[49,45,55,44]++num n,[42,47,50]]
noncomputable def wkT(d m:Nat):List (List Nat):=[[42],[42],[49,45,53],num d,num d++[35]++num m,num d++[76],num d++[35,53],[53,45,55],[42],[42]]
theorem amD:num 30=[51,48]/\num 29=[50,57]/\num 31=[51,49]/\num 5=[53]/\num 2=[50]:=by decide +kernel
theorem apN{n:Nat}(h1:1<=n)(h2:n<=31):∀t∈aj8 n,∃ko,DT false t ko:=by
 have one:∃ko,DT false (num n) ko:=by
  have:=ah1 (b:=false) (n,n) (by show (1:Int)<=n;omega) (aV _) (by show (n:Int)<=31;omega)
  rwa [show rt (n,n)=num n from if_pos rfl] at this
 intro t ht
 simp only[aj8,aX,bV,or_false] at ht
 rcases ht with rfl | rfl | rfl | rfl | rfl | rfl | rfl | rfl | rfl | rfl | rfl | rfl
 ·exact⟨_,abE false⟩
 ·exact one
 ·exact⟨_,abE false⟩
 ·exact apS ⟨axL.2,axL.1⟩ (by decide) ⟨rfl,rfl,by decide,by decide⟩
 ·split
  ·have z:=axZ 30 (by decide) (by decide)
   rw[amD.1] at z
   exact apS (k:=.lst 30) ⟨z.2,z.1⟩ (by decide) ⟨rfl,rfl,by decide,by decide⟩
  ·have z:=axZ n (by omega) h1
   exact apS (k:=.lst n) ⟨z.2,z.1⟩ (fun e=>by cases e) ⟨rfl,rfl,by show (0:Int)<=n;omega,by show (n:Int)<=30;omega⟩
 ·have z:=aC6 n (by omega) h1
  refine apS (k:=.nea n) ⟨z.2,z.1⟩ (fun e=>?_) ⟨rfl,rfl,by show (1:Int)<=n;omega,by show (n:Int)<=31;omega⟩
  have l:=congrArg List.length e
  rw[aW] at l
  have:=amT n
  cases hn:num n with
  |nil=>exact this hn
  |cons a r=>rw[hn] at l;(simp at l;try omega)
 ·exact apS ⟨ax4.2,ax4.1⟩ (by decide) ⟨rfl,rfl,trivial⟩
 ·have:=ah1 (b:=false) (29,29) (by decide) (by decide) (by decide)
  rwa [show rt (29,29)=num 29 from if_pos rfl,amD.2.1] at this
 ·exact⟨_,abE false⟩
 ·have:=ah1 (b:=false) (31,31) (by decide) (by decide) (by decide)
  rwa [show rt (31,31)=num 31 from if_pos rfl,amD.2.2.1] at this
 ·refine⟨_,aCY (ws:=[[49,45,55],num n]) (ks:=[plm false (1,7),plm false (n,n)]) (.cons ?_ (.cons ?_ .nil)) (bN _ _) (by show 2<=20;decide) (fun z hz=>?_) fun z hz=>?_⟩
  ·have:=ap6 (b:=false) (x:=(1,7)) (by decide) (by decide) (by decide)
   rwa [show rt (1,7)=[49,45,55] by decide +kernel] at this
  ·have:=ap6 (b:=false) (x:=(n,n)) (by show (1:Int)<=n;omega) (aV _) (by show (n:Int)<=31;omega)
   rwa [show rt (n,n)=num n from if_pos rfl] at this
  ·rcases aX.mp hz with rfl | hz
   ·decide
   ·rw[bQ.mp hz]
    have:=aCO (x:=(n,n)) (by show n<100;omega)
    rwa [show rt (n,n)=num n from if_pos rfl] at this
  ·rcases aX.mp hz with rfl | hz
   ·exact auB (b:=false) (x:=(1,7)) (by decide) (by decide) (by decide)
   ·rw[bQ.mp hz]
    exact auB (b:=false) (x:=(n,n)) (by show (1:Int)<=n;omega) (aV _) (by show (n:Int)<=31;omega)
 ·exact apS (k:=.num 2863311530) ⟨by decide,rfl,by decide +kernel,by decide⟩ (by decide) ⟨rfl,rfl,by show (0:Int)<=2863311530;decide⟩
theorem ayS{d m:Nat}(h1:d<=7)(h2:1<=m)(h3:m<=5):∃ko,DT true (num d++[35]++num m) ko:=by
 have z:=aLQ d (by omega) m (by omega) h2
 refine apS (k:=.nth ((d:Int)%7) m) ⟨z.2,z.1⟩ (fun e=>?_) ⟨rfl,rfl,⟨by omega,by omega⟩,by show (1:Int)<=m;omega,by show (m:Int)<=5;omega⟩
 have l:=congrArg List.length e
 rw[aW,aW] at l
 have:=amT d
 cases hn:num d with
 |nil=>exact this hn
 |cons a r=>rw[hn] at l;(simp at l;try omega)
theorem as6{d m:Nat}(h1:d<=7)(h2:1<=m)(h3:m<=5):∀t∈wkT d m,∃ko,DT true t ko:=by
 intro t ht
 simp only[wkT,aX,bV,or_false] at ht
 rcases ht with rfl | rfl | rfl | rfl | rfl | rfl | rfl | rfl | rfl | rfl
 ·exact⟨_,abE true⟩
 ·exact⟨_,abE true⟩
 ·have:=ah1 (b:=true) (1,5) (by decide) (by decide) (by decide)
  rwa [show rt (1,5)=[49,45,53] by decide +kernel] at this
 ·have:=ah1 (b:=true) (d,d) (by show (0:Int)<=d;omega) (aV _) (by show (d:Int)<=7;omega)
  rwa [show rt (d,d)=num d from if_pos rfl] at this
 ·exact ayS h1 h2 h3
 ·have z:=aIH d (by omega)
  refine apS (k:=.one ((d:Int)%7)) ⟨z.2,z.1⟩ (fun e=>?_) ⟨rfl,rfl,by omega,by omega⟩
  have l:=congrArg List.length e
  rw[aW] at l
  have:=amT d
  cases hn:num d with
  |nil=>exact this hn
  |cons a r=>rw[hn] at l;(simp at l;try omega)
 ·have:=ayS (d:=d) (m:=5) h1 (by decide) (by decide)
  rwa [amD.2.2.2.1,List.append_assoc] at this
 ·have:=ah1 (b:=true) (5,7) (by decide) (by decide) (by decide)
  rwa [show rt (5,7)=[53,45,55] by decide +kernel] at this
 ·exact⟨_,abE true⟩
 ·exact⟨_,abE true⟩
theorem asO{ts:List (List Nat)}{i:Int}(h0:0<=i)(h1:i<ts.length):∃t∈ts,atI (ts.map fun t=>V.str (Tx t)) i=some (.str (Tx t)):=by
 have hk:i.toNat<ts.length:=by omega
 have e:i=((i.toNat:Nat):Int):=by omega
 refine⟨ts[i.toNat],List.getElem_mem hk,?_⟩
 have z:atI (ts.map fun t=>V.str (Tx t)) ((i.toNat:Nat):Int)=some (.str (Tx ts[i.toNat])):=adU (by rw[bE,cH hk];rfl)
 rwa [←e] at z
noncomputable def DVf(c:Cs)(D:Addr)(H0 H:Hp)(v:V)(ko:Option (List Mk)):Prop:=DV c H v ko/\∀p,v=.ref p->p≠D/\H0 p=none
theorem DVf.keep{c:Cs}{H0:Hp}{D:Addr}{H H':Hp}(s:Same H H'){v:V}{ko:Option (List Mk)}(h:DVf c D H0 H v ko):DVf c D H0 H' v ko:=⟨h.1.keep s,h.2⟩
theorem DVf.upd{c:Cs}{H0:Hp}{D:Addr}{H:Hp}{l':List V}{v:V}:∀{ko:Option (List Mk)},DVf c D H0 H v ko->(∃l,H D=some (.lst l))->DVf c D H0 (upd H D (.lst l')) v ko
 |none,h,_=>h
 |some ks,⟨⟨p,qs,e,h1,h2,h3⟩,hn⟩,⟨l,hl⟩=>⟨⟨p,qs,e,by rw[aaE (hn p e).1];exact h1,h2.keepM (ag9 hl),h3⟩,hn⟩
noncomputable def RRf(c:Cs)(H0:Hp)(m0 m1 m3:Int)(kd kw:Option (List Mk))(D:Addr)(i:Nat)(l:List V)(H:Hp):Prop:=match i with
 |0=>l=[]
 |1=>l=[.int m0]
 |2=>l=[.int m0,.int m1]
 |3=>∃dv,l=[.int m0,.int m1,dv]/\DVf c D H0 H dv kd
 |4=>∃dv,l=[.int m0,.int m1,dv,.int m3]/\DVf c D H0 H dv kd
 |_=>∃dv wv,l=[.int m0,.int m1,dv,.int m3,wv]/\DVf c D H0 H dv kd/\DVf c D H0 H wv kw
theorem RRf.keep{c:Cs}{H0:Hp}{m0 m1 m3:Int}{kd kw:Option (List Mk)}{D:Addr}{l:List V}{H H':Hp}(s:Same H H'):∀{i:Nat},RRf c H0 m0 m1 m3 kd kw D i l H->RRf c H0 m0 m1 m3 kd kw D i l H'
 |0,h=>h
 |1,h=>h
 |2,h=>h
 |3,⟨dv,e,h⟩=>⟨dv,e,h.keep s⟩
 |4,⟨dv,e,h⟩=>⟨dv,e,h.keep s⟩
 |_+5,⟨dv,wv,e,h,h'⟩=>⟨dv,wv,e,h.keep s,h'.keep s⟩
theorem RRf.upd{c:Cs}{H0:Hp}{m0 m1 m3:Int}{kd kw:Option (List Mk)}{D:Addr}{l l':List V}{H:Hp}(hl:∃l,H D=some (.lst l)):∀{i:Nat},RRf c H0 m0 m1 m3 kd kw D i l H->RRf c H0 m0 m1 m3 kd kw D i l (upd H D (.lst l'))
 |0,h=>h
 |1,h=>h
 |2,h=>h
 |3,⟨dv,e,h⟩=>⟨dv,e,h.upd hl⟩
 |4,⟨dv,e,h⟩=>⟨dv,e,h.upd hl⟩
 |_+5,⟨dv,wv,e,h,h'⟩=>⟨dv,wv,e,h.upd hl,h'.upd hl⟩
noncomputable def RwP(A:Addr->Prop)(c:Cs)(CR:Addr)(H:Hp)(v:V)(tm:Int)(f:DF):Prop:=∃(x dx:Addr) (m0 m1 m3:Int) (dv wv:V) (kd kw:Option (List Mk)),v=.ref x/\H x=some (.ins CR dx (ab7 m0 m1 dv m3 wv tm))/\(0<=m3/\abK tm)/\DV c H dv kd/\DV c H wv kw/\(∀p,dv=.ref p->A p)/\(∀p,wv=.ref p->A p)/\f=acO tm m3 kd kw
theorem ahE{A:Addr->Prop}{c:Cs}{CR:Addr}{H H':Hp}{v:V}{tm:Int}{f:DF}(s:Same H H')(h:RwP A c CR H v tm f):RwP A c CR H' v tm f:=by
 obtain⟨x,dx,m0,m1,m3,dv,wv,kd,kw,e,hx,h3,hd,hw,a1,a2,ef⟩:=h
 exact⟨x,dx,m0,m1,m3,dv,wv,kd,kw,e,s _ _ hx,h3,hd.keep s,hw.keep s,a1,a2,ef⟩
theorem amC{A A':Addr->Prop}{c:Cs}{CR:Addr}{H:Hp}{v:V}{tm:Int}{f:DF}(m:∀p,A p->A' p)(h:RwP A c CR H v tm f):RwP A' c CR H v tm f:=by
 obtain⟨x,dx,m0,m1,m3,dv,wv,kd,kw,e,hx,h3,hd,hw,a1,a2,ef⟩:=h
 exact⟨x,dx,m0,m1,m3,dv,wv,kd,kw,e,hx,h3,hd,hw,fun p e=>m p (a1 p e),fun p e=>m p (a2 p e),ef⟩
theorem aFK{A:Addr->Prop}{c:Cs}{CR:Addr}{H:Hp}{v:V}{tm:Int}{f:DF}(h:RwP A c CR H v tm f):RwP (fun p=>H p≠none) c CR H v tm f:=by
 obtain⟨x,dx,m0,m1,m3,dv,wv,kd,kw,e,hx,h3,hd,hw,a1,a2,ef⟩:=h
 have key:∀{v:V} {ko:Option (List Mk)},DV c H v ko->∀p,v=.ref p->H p≠none:=fun {v ko} h p e z=>by
  subst e
  cases ko with
  |none=>cases h
  |some ks=>
   obtain⟨p',qs,e',h1,_⟩:=h
   cases e'
   rw[z] at h1
   cases h1
 exact⟨x,dx,m0,m1,m3,dv,wv,kd,kw,e,hx,h3,hd,hw,key hd,key hw,ef⟩
theorem aEI{A:Addr->Prop}{c:Cs}{CR:Addr}{H:Hp}{v:V}{tm:Int}{f:DF}(h:RwP A c CR H v tm f):aBZ c CR H v f:=by
 obtain⟨x,dx,m0,m1,m3,dv,wv,kd,kw,e,hx,h3,hd,hw,_,_,ef⟩:=h
 exact⟨x,dx,m0,m1,m3,tm,dv,wv,kd,kw,e,hx,h3.1,hd,hw,ef⟩
theorem au6{A:Addr->Prop}{c:Cs}{CR D:Addr}{H:Hp}{v:V}{tm:Int}{f:DF}{l l':List V}(hD:H D=some (.lst l))(n:∀p,A p->p≠D)(h:RwP A c CR H v tm f):RwP A c CR (upd H D (.lst l')) v tm f:=by
 obtain⟨x,dx,m0,m1,m3,dv,wv,kd,kw,e,hx,h3,hd,hw,a1,a2,ef⟩:=h
 have u:∀{v:V} {ko:Option (List Mk)},DV c H v ko->(∀p,v=.ref p->A p)->DV c (upd H D (.lst l')) v ko:=fun h a=>(DVn.upd (D:=D) ⟨h,fun p e=>n p (a p e)⟩ ⟨l,hD⟩).1
 exact⟨x,dx,m0,m1,m3,dv,wv,kd,kw,e,by rw[aaE (fun z=>by rw[z,hD] at hx;cases hx)];exact hx,h3,u hd a1,u hw a2,a1,a2,ef⟩
noncomputable def TrP(A:Addr->Prop)(c:Cs)(CR:Addr):Nat->Hp->V->DF->Prop
 |0,_,_,_=>False
 |n+1,H,v,f=>∃(t l:Addr) (wd:List Nat),v=.ref t/\H t=some (.tup [.str (Tx wd),.ref l])/\A l/\
   ((wd=[110,111,110,101]/\H l=some (.lst [])/\f=fun _ _=>0)
   ∨(wd=[114,111,119]/\∃(r:V) (tm:Int),H l=some (.lst [r,.int tm])/\RwP A c CR H r tm f)
   ∨(∃(us:List V) (fs:List DF),(wd=[106,111,105,110]/\f=orF fs∨wd=[109,101,101,116]/\f=anF fs)/\H l=some (.lst us)/\Paired (TrP A c CR n H) us fs/\1<=us.length/\us.length<=3)
   ∨(wd=[108,101,115,115]/\∃(u1 u2:V) (a b:DF),H l=some (.lst [u1,u2])/\TrP A c CR n H u1 a/\TrP A c CR n H u2 b/\f=fun k j=>Builtin.bitAnd (a k j) (Builtin.bitNot (b k j)))
   ∨(wd=[116,117,114,110]/\∃(u1:V) (a:DF),H l=some (.lst [u1])/\TrP A c CR n H u1 a/\f=fun k j=>Builtin.bitXor allT (a k j)))
theorem aiM{A A':Addr->Prop}{c:Cs}{CR:Addr}{H H':Hp}(m:∀p,A p->A' p)(ht:∀b xs,H b=some (.tup xs)->H' b=some (.tup xs))(hl:∀b xs,A b->H b=some (.lst xs)->H' b=some (.lst xs))(hr:∀{v tm f},RwP A c CR H v tm f->RwP A' c CR H' v tm f):∀(n:Nat) {v:V} {f:DF},TrP A c CR n H v f->TrP A' c CR n H' v f
 |0,_,_,h=>h
 |n+1,_,_,h=>by
  obtain⟨t,l,wd,rfl,h1,hA,h⟩:=h
  refine⟨t,l,wd,rfl,ht _ _ h1,m _ hA,?_⟩
  rcases h with ⟨e,h2,ef⟩ | ⟨e,r,tm,h2,h3⟩ | ⟨us,fs,e,h2,h3,h4⟩ | ⟨e,u1,u2,a,b,h2,h3,h4,ef⟩ | ⟨e,u1,a,h2,h3,ef⟩
  ·exact .inl ⟨e,hl _ _ hA h2,ef⟩
  ·exact .inr (.inl ⟨e,r,tm,hl _ _ hA h2,hr h3⟩)
  ·exact .inr (.inr (.inl ⟨us,fs,e,hl _ _ hA h2,Paired.mapP h3 fun _ _ z=>aiM m ht hl hr n z,h4⟩))
  ·exact .inr (.inr (.inr (.inl ⟨e,u1,u2,a,b,hl _ _ hA h2,aiM m ht hl hr n h3,aiM m ht hl hr n h4,ef⟩)))
  ·exact .inr (.inr (.inr (.inr ⟨e,u1,a,hl _ _ hA h2,aiM m ht hl hr n h3,ef⟩)))
theorem aaU{A A':Addr->Prop}{c:Cs}{CR:Addr}{H H':Hp}(m:∀p,A p->A' p)(s:Same H H')(n:Nat){v:V}{f:DF}(h:TrP A c CR n H v f):TrP A' c CR n H' v f:=aiM m (fun _ _ z=>s _ _ z) (fun _ _ _ z=>s _ _ z) (fun z=>amC m (ahE s z)) n h
theorem au8{A:Addr->Prop}{c:Cs}{CR D:Addr}{H:Hp}{l l':List V}(hD:H D=some (.lst l))(na:∀p,A p->p≠D)(n:Nat){v:V}{f:DF}(h:TrP A c CR n H v f):TrP A c CR n (upd H D (.lst l')) v f:=
 aiM (fun _ z=>z) (fun b _ z=>by rw[aaE (fun e=>by rw[e,hD] at z;cases z)];exact z) (fun b _ a z=>by rw[aaE (na b a)];exact z) (fun z=>au6 hD na z) n h
noncomputable def BsP(A:Addr->Prop)(c:Cs)(CR CB CO CJ CM CL CT:Addr):Nat->Hp->V->DF->Prop
 |0,_,_,_=>False
 |n+1,H,v,f=>∃x,v=.ref x/\(wB CB H x f∨(∃dx r tm,H x=some (.ins CO dx [("row",r)])/\RwP A c CR H r tm f)∨wJ orF CJ (BsP A c CR CB CO CJ CM CL CT n H) H x f∨wJ anF CM (BsP A c CR CB CO CJ CM CL CT n H) H x f∨wL CL (BsP A c CR CB CO CJ CM CL CT n H) H x f∨wT CT (BsP A c CR CB CO CJ CM CL CT n H) H x f)
theorem afD{A A':Addr->Prop}{c:Cs}{CR CB CO CJ CM CL CT:Addr}{H H':Hp}(ht:∀b o,H b=some o->(∀xs,o≠ .lst xs)->H' b=some o)(hr:∀{v tm f},RwP A c CR H v tm f->RwP A' c CR H' v tm f):∀(n:Nat) {v:V} {f:DF},BsP A c CR CB CO CJ CM CL CT n H v f->BsP A' c CR CB CO CJ CM CL CT n H' v f
 |0,_,_,h=>h
 |n+1,_,_,h=>by
  obtain⟨x,rfl,h⟩:=h
  refine⟨x,rfl,?_⟩
  rcases h with ⟨dx,hx,e⟩ | ⟨dx,r,tm,hx,hr'⟩ | ⟨dx,t,vs,fs,hx,h1,hp,e⟩ | ⟨dx,t,vs,fs,hx,h1,hp,e⟩ | ⟨dx,v1,v2,a,b,hx,h1,h2,e⟩ | ⟨dx,v1,a,hx,h1,e⟩
  ·exact .inl ⟨dx,ht _ _ hx (fun _ z=>nomatch z),e⟩
  ·exact .inr (.inl ⟨dx,r,tm,ht _ _ hx (fun _ z=>nomatch z),hr hr'⟩)
  ·exact .inr (.inr (.inl ⟨dx,t,vs,fs,ht _ _ hx (fun _ z=>nomatch z),ht _ _ h1 (fun _ z=>nomatch z),Paired.mapP hp fun _ _ z=>afD ht hr n z,e⟩))
  ·exact .inr (.inr (.inr (.inl ⟨dx,t,vs,fs,ht _ _ hx (fun _ z=>nomatch z),ht _ _ h1 (fun _ z=>nomatch z),Paired.mapP hp fun _ _ z=>afD ht hr n z,e⟩)))
  ·exact .inr (.inr (.inr (.inr (.inl ⟨dx,v1,v2,a,b,ht _ _ hx (fun _ z=>nomatch z),afD ht hr n h1,afD ht hr n h2,e⟩))))
  ·exact .inr (.inr (.inr (.inr (.inr ⟨dx,v1,a,ht _ _ hx (fun _ z=>nomatch z),afD ht hr n h1,e⟩))))
theorem abF{A A':Addr->Prop}{c:Cs}{CR CB CO CJ CM CL CT:Addr}{H H':Hp}(m:∀p,A p->A' p)(s:Same H H')(n:Nat){v:V}{f:DF}(h:BsP A c CR CB CO CJ CM CL CT n H v f):BsP A' c CR CB CO CJ CM CL CT n H' v f:=afD (fun _ _ z _=>s _ _ z) (fun z=>amC m (ahE s z)) n h
theorem akS{A:Addr->Prop}{c:Cs}{CR CB CO CJ CM CL CT D:Addr}{H:Hp}{l l':List V}(hD:H D=some (.lst l))(na:∀p,A p->p≠D)(n:Nat){v:V}{f:DF}(h:BsP A c CR CB CO CJ CM CL CT n H v f):BsP A c CR CB CO CJ CM CL CT n (upd H D (.lst l')) v f:=
 afD (fun b o z nl=>by rw[aaE (fun e=>by rw[e,hD] at z;exact nl _ (bA z).symm)];exact z) (fun z=>au6 hD na z) n h
theorem adW{A:Addr->Prop}{c:Cs}{CR CB CO CJ CM CL CT:Addr}{H:Hp}:∀(n:Nat) {v:V} {f:DF},BsP A c CR CB CO CJ CM CL CT n H v f->acN c CR CB CO CJ CM CL CT n H v f
 |0,_,_,h=>h
 |n+1,_,_,h=>by
  obtain⟨x,rfl,h⟩:=h
  refine⟨x,rfl,?_⟩
  rcases h with h | ⟨dx,r,tm,hx,hr'⟩ | ⟨dx,t,vs,fs,hx,h1,hp,e⟩ | ⟨dx,t,vs,fs,hx,h1,hp,e⟩ | ⟨dx,v1,v2,a,b,hx,h1,h2,e⟩ | ⟨dx,v1,a,hx,h1,e⟩
  ·exact .inl h
  ·exact .inr (.inl ⟨dx,r,hx,aEI hr'⟩)
  ·exact .inr (.inr (.inl ⟨dx,t,vs,fs,hx,h1,Paired.mapP hp fun _ _ z=>adW n z,e⟩))
  ·exact .inr (.inr (.inr (.inl ⟨dx,t,vs,fs,hx,h1,Paired.mapP hp fun _ _ z=>adW n z,e⟩)))
  ·exact .inr (.inr (.inr (.inr (.inl ⟨dx,v1,v2,a,b,hx,adW n h1,adW n h2,e⟩))))
  ·exact .inr (.inr (.inr (.inr (.inr ⟨dx,v1,a,hx,adW n h1,e⟩))))
noncomputable def ap3(K:FG)(c:Cs)(CR:Addr)(lv:Nat):Sp:=fun vs H Q _=>∃(a:Addr) (n:Nat) (bm:Bool) (ns:List Int),vs=[.ref a,.int n,.int lv,.bl bm]/\SqL K H a (ns.map V.int)/\(n+2)*3^lv<=450/\∀(t:Addr) (f:DF) (H':Hp),Same H H'->TrP (fun p=>H p=none) c CR (lv+1) H' (.ref t) f->Q (.ref t) H'
theorem aE4{i:Int}(h0:0<=i)(h1:i<7):∃wd:List Nat,atI [.str (Tx [106,111,105,110]),.str (Tx [109,101,101,116]),.str (Tx [108,101,115,115]),.str (Tx [116,117,114,110]),.str (Tx [106,111,105,110]),.str (Tx [108,101,115,115]),.str (Tx [116,117,114,110])] i=some (V.str (Tx wd))/\(wd=[106,111,105,110]∨wd=[109,101,101,116]∨wd=[108,101,115,115]∨wd=[116,117,114,110]):=by
 obtain⟨n,rfl⟩:∃n:Nat,i=n:=⟨i.toNat,by omega⟩
 match n,h1 with
 |0,_=>exact⟨_,rfl,.inl rfl⟩
 |1,_=>exact⟨_,rfl,.inr (.inl rfl)⟩
 |2,_=>exact⟨_,rfl,.inr (.inr (.inl rfl))⟩
 |3,_=>exact⟨_,rfl,.inr (.inr (.inr rfl))⟩
 |4,_=>exact⟨_,rfl,.inl rfl⟩
 |5,_=>exact⟨_,rfl,.inr (.inr (.inl rfl))⟩
 |6,_=>exact⟨_,rfl,.inr (.inr (.inr rfl))⟩
 |n+7,h=>exact absurd h (by have:((n+7:Nat):Int)=(n:Int)+7:=rfl;omega)
noncomputable def aEA(z:Int):List (Key×V):=[(.inr (Tx [106,111,105,110]),.int z),(.inr (Tx [109,101,101,116]),.int z),(.inr (Tx [108,101,115,115]),.int 2),(.inr (Tx [116,117,114,110]),.int 1)]
theorem aAX{z:Int}{wd:List Nat}(hz:1<=z/\z<=3)(h:wd=[106,111,105,110]∨wd=[109,101,101,116]∨wd=[108,101,115,115]∨wd=[116,117,114,110]):∃M:Nat,some (V.int M)=am6 (agJ [] (aEA z)) (.inr (Tx wd))/\((wd=[106,111,105,110]∨wd=[109,101,101,116])/\1<=M/\M<=3∨wd=[108,101,115,115]/\M=2∨wd=[116,117,114,110]/\M=1):=by
 obtain⟨n,rfl⟩:∃n:Nat,z=n:=⟨z.toNat,by omega⟩
 rcases h with rfl | rfl | rfl | rfl
 ·exact⟨n,rfl,.inl ⟨.inl rfl,by omega,by omega⟩⟩
 ·exact⟨n,rfl,.inl ⟨.inr rfl,by omega,by omega⟩⟩
 ·exact⟨2,rfl,.inr (.inl ⟨rfl,rfl⟩)⟩
 ·exact⟨1,rfl,.inr (.inr ⟨rfl,rfl⟩)⟩
theorem av0{A:Addr->Prop}{c:Cs}{CR t l:Addr}{H:Hp}{n M:Nat}{wd:List Nat}{us:List V}{fs:List DF}(ht:H t=some (.tup [.str (Tx wd),.ref l]))(ha:A l)(hl:H l=some (.lst us))(hp:Paired (TrP A c CR n H) us fs)(ln:us.length=M)
  (h:(wd=[106,111,105,110]∨wd=[109,101,101,116])/\1<=M/\M<=3∨wd=[108,101,115,115]/\M=2∨wd=[116,117,114,110]/\M=1):∃f,TrP A c CR (n+1) H (.ref t) f:=by
 rcases h with ⟨rfl | rfl,h1,h3⟩ | ⟨rfl,rfl⟩ | ⟨rfl,rfl⟩
 ·exact⟨_,t,l,_,rfl,ht,ha,.inr (.inr (.inl ⟨us,fs,.inl ⟨rfl,rfl⟩,hl,hp,by omega,by omega⟩))⟩
 ·exact⟨_,t,l,_,rfl,ht,ha,.inr (.inr (.inl ⟨us,fs,.inr ⟨rfl,rfl⟩,hl,hp,by omega,by omega⟩))⟩
 ·match us,fs,hp,ln with
  |[u1,u2],[a,b],.cons h1 (.cons h2 .nil),_=>exact⟨_,t,l,_,rfl,ht,ha,.inr (.inr (.inr (.inl ⟨rfl,u1,u2,a,b,hl,h1,h2,rfl⟩)))⟩
 ·match us,fs,hp,ln with
  |[u1],[a],.cons h1 .nil,_=>exact⟨_,t,l,_,rfl,ht,ha,.inr (.inr (.inr (.inr ⟨rfl,u1,a,hl,h1,rfl⟩)))⟩
noncomputable def tl:Nat->Int
 |0=>0
 |n+1=>1+3*tl n
theorem ae5{A:Addr->Prop}{c:Cs}{CR:Addr}{H:Hp}:∀(n:Nat) {v:V} {f:DF},TrP A c CR n H v f->TrP (fun p=>A p/\H p≠none) c CR n H v f
 |0,_,_,h=>h
 |n+1,_,_,h=>by
  obtain⟨t,l,wd,rfl,h1,hA,h⟩:=h
  have ne:∀{xs:List V},H l=some (.lst xs)->A l/\H l≠none:=fun z=>⟨hA,by rw[z];exact fun z=>nomatch z⟩
  rcases h with ⟨e,h2,ef⟩ | ⟨e,r,tm,h2,h3⟩ | ⟨us,fs,e,h2,h3,h4⟩ | ⟨e,u1,u2,a,b,h2,h3,h4,ef⟩ | ⟨e,u1,a,h2,h3,ef⟩
  ·exact⟨t,l,wd,rfl,h1,ne h2,.inl ⟨e,h2,ef⟩⟩
  ·refine⟨t,l,wd,rfl,h1,ne h2,.inr (.inl ⟨e,r,tm,h2,?_⟩)⟩
   obtain⟨x,dx,m0,m1,m3,dv,wv,kd,kw,e,hx,h3',hd,hw,a1,a2,ef⟩:=h3
   have key:∀{v:V} {ko:Option (List Mk)},DV c H v ko->∀p,v=.ref p->H p≠none:=fun {v ko} h p e z=>by
    subst e
    cases ko with
    |none=>cases h
    |some ks=>
     obtain⟨p',qs,e',h1,_⟩:=h
     cases e'
     rw[z] at h1
     cases h1
   exact⟨x,dx,m0,m1,m3,dv,wv,kd,kw,e,hx,h3',hd,hw,fun p e=>⟨a1 p e,key hd p e⟩,fun p e=>⟨a2 p e,key hw p e⟩,ef⟩
  ·exact⟨t,l,wd,rfl,h1,ne h2,.inr (.inr (.inl ⟨us,fs,e,h2,Paired.mapP h3 fun _ _ z=>ae5 n z,h4⟩))⟩
  ·exact⟨t,l,wd,rfl,h1,ne h2,.inr (.inr (.inr (.inl ⟨e,u1,u2,a,b,h2,ae5 n h3,ae5 n h4,ef⟩)))⟩
  ·exact⟨t,l,wd,rfl,h1,ne h2,.inr (.inr (.inr (.inr ⟨e,u1,a,h2,ae5 n h3,ef⟩)))⟩
theorem aiC{CB CO CJ CM CL CT:Addr}{H:Hp}{p:Addr}{l l':List V}(hp:H p=some (.lst l)):∀(n:Nat) {v:V} {td:Int×Int},acD CB CO CJ CM CL CT n H v td->acD CB CO CJ CM CL CT n (upd H p (.lst l')) v td
 |0,_,_,h=>h
 |n+1,_,_,h=>by
  obtain⟨x,dx,rfl,h⟩:=h
  have up:∀{b:Addr} {o:HO},H b=some o->(∀l,o≠ .lst l)->upd H p (.lst l') b=some o:=fun hb ho=>by
   rw[aaE (fun e=>by rw[e,hp] at hb;exact ho _ (bA hb).symm)]
   exact hb
  refine⟨x,dx,rfl,?_⟩
  rcases h with ⟨e,hx | ⟨r,hx⟩⟩ | ⟨C,t,vs,tds',hC,hx,ht,hq,z⟩ | ⟨v1,v2,a',b',hx,h1,h2,z⟩ | ⟨v1,a',hx,h1,e⟩
  ·exact .inl ⟨e,.inl (up hx fun _ z=>nomatch z)⟩
  ·exact .inl ⟨e,.inr ⟨r,up hx fun _ z=>nomatch z⟩⟩
  ·exact .inr (.inl ⟨C,t,vs,tds',hC,up hx (fun _ z=>nomatch z),up ht (fun _ z=>nomatch z),Paired.mapP hq fun _ _ z=>aiC hp n z,z⟩)
  ·exact .inr (.inr (.inl ⟨v1,v2,a',b',up hx (fun _ z=>nomatch z),aiC hp n h1,aiC hp n h2,z⟩))
  ·exact .inr (.inr (.inr ⟨v1,a',up hx (fun _ z=>nomatch z),aiC hp n h1,e⟩))
noncomputable def aoV(c:Cs)(CR CB CO CJ CM CL CT:Addr)(n:Nat):Sp:=fun vs H Q _=>∃(A:Addr->Prop) (v:V) (f:DF),vs=[v]/\TrP A c CR n H v f/\n<=3/\∀(b:V) (t d:Int) (H':Hp),Same H H'->BsP A c CR CB CO CJ CM CL CT n H' b f->acD CB CO CJ CM CL CT 6 H' b (t,d)->(1<=t/\t<=tl n)->d<=(n:Int)->Q b H'
theorem auC:∀{is:List Int},is≠[]->∃m∈is,∀i∈is,i<=m
 |[],h=>absurd rfl h
 |[i],_=>⟨i,bQ.mpr rfl,fun j hj=>by rw[bQ.mp hj];exact a8 _⟩
 |i::j::r,_=>by
  obtain⟨m,hm,h⟩:=auC (is:=j::r) (bN _ _)
  by_cases c:i<=m
  ·exact⟨m,bF _ hm,fun z hz=>(aX.mp hz).elim (fun e=>by rw[e];exact c) (h z)⟩
  ·exact⟨i,bO ..,fun z hz=>(aX.mp hz).elim (fun e=>by rw[e];exact a8 _) fun z'=>Int.le_trans (h z z') (by omega)⟩
theorem aAI{B:Int}(hB:0<=B):∀{is:List Int},is.length<=3->(∀i∈is,0<=i/\i<=B)->is.sum<=3*B
 |[],_,_=>by show (0:Int)<=_;omega
 |[a],_,h=>by have:=h a (by simp);show a+0<=_;omega
 |[a,b],_,h=>by have:=h a (by simp);have:=h b (by simp);show a+(b+0)<=_;omega
 |[a,b,c],_,h=>by have:=h a (by simp);have:=h b (by simp);have:=h c (by simp);show a+(b+(c+0))<=_;omega
 |a::b::c::d::r,h,_=>absurd h (by simp)
theorem axN{n:Nat}(h:n<=3):0<=tl n/\tl n<=13:=by
 match n,h with
 |0,_ | 1,_ | 2,_ | 3,_=>decide
 |n+4,h=>exact absurd h (by omega)
theorem aFQ{K:FG}{CB CO CJ CM CL CT:Addr}{H:Hp}{n:Nat}{us:List V}{tds:List (Int×Int)}(hn:n<=2)(hp:Paired (acD CB CO CJ CM CL CT 6 H) us tds)(h0:1<=us.length)(h3:us.length<=3)(hb:∀td∈tds,td.1<=tl n/\td.2<=(n:Int)):∃t d,Vd K CB CO CJ CM CL CT H us (some (t,d))/\(1<=t/\t<=tl (n+1))/\d<=((n+1:Nat):Int):=by
 have ln:=Paired.length hp
 have tb:=axN (show n<=3 by omega)
 obtain⟨m,hm,hmax⟩:=auC (is:=tds.map Prod.snd) (fun e=>by have e':=congrArg List.length e;rw[aU,←ln] at e';have e0:us.length=0:=e';omega)
 have s1:∀i∈tds.map Prod.fst,0<=i/\i<=tl n:=fun i hi=>by
  obtain⟨td,htd,rfl⟩:=bR.mp hi
  obtain⟨u,hu,hbk⟩:=abL hp td htd
  have:=(acZ hbk).2.1
  exact⟨by omega,(hb td htd).1⟩
 have s2:=aAI tb.1 (is:=tds.map Prod.fst) (by rw[aU];omega) s1
 have s3:=asY (is:=tds.map Prod.fst) fun i hi=>(s1 i hi).1
 have hmn:m<=(n:Int):=by
  obtain⟨td,htd,rfl⟩:=bR.mp hm
  exact (hb td htd).2
 have tn:tl (n+1)=1+3*tl n:=rfl
 have t24:tl (n+1)<=24:=by
  have:=axN (show n+1<=3 by omega)
  omega
 refine⟨1+(tds.map Prod.fst).sum,m+1,⟨tds,hp,by omega,rfl,by show 1+(tds.map Prod.fst).sum<=24;omega,fun z hz=>by have:=hmax z hz;show z<m+1;omega,by show m+1-1∈_;rw[show m+1-1=m by omega];exact hm,by show m+1<=5;omega⟩,⟨by omega,by omega⟩,by have:((n+1:Nat):Int)=(n:Int)+1:=rfl;omega⟩
noncomputable def aoY(sts:List Tri)(a b tm:Int):List Tri:=match sts.getLast? with
 |some s=>if s.2.2=tm then sts.dropLast++[(s.1,b,tm)] else sts++[(a,b,tm)]
 |none=>[(a,b,tm)]
noncomputable def pgN(f:Nat->Int):Nat->List Tri
 |0=>[]
 |n+1=>aoY (pgN f n) ((n+1:Nat):Int) ((n+1:Nat):Int) (f n)
theorem ahY{H H':Hp}(h:∀b xs,H b=some (.tup xs)->H' b=some (.tup xs)){v:V}{s:Tri}(z:TpT H v s):TpT H' v s:=by
 obtain⟨t,e,ht⟩:=z
 exact⟨t,e,h _ _ ht⟩
theorem aoF(sts:List Tri)(s:Tri)(a b tm:Int):aoY (sts++[s]) a b tm=if s.2.2=tm then sts++[(s.1,b,tm)] else sts++[s]++[(a,b,tm)]:=by
 unfold aoY
 simp
theorem axX{α β:Type}{F:α->β->Prop}:∀{l:List α} {v:α} {r:List β},Paired F (l++[v]) r->∃r0 s,r=r0++[s]/\Paired F l r0/\F v s
 |[],v,_,.cons h .nil=>⟨[],_,rfl,.nil,h⟩
 |x::l,v,_,.cons h t=>by
  obtain⟨r0,s,rfl,h1,h2⟩:=axX t
  exact⟨_::r0,s,rfl,.cons h h1,h2⟩
theorem aAM{α:Type}{l:List α}(h:l≠[]):∃l0 v,l=l0++[v]:=⟨l.dropLast,l.getLast h,(List.dropLast_concat_getLast h).symm⟩
theorem auJ{l:List V}{v:V}:atI (l++[v]) (-1)=some v:=ayO l v
theorem az0{l:List V}{v:V}:ixN (l++[v]).length (-1)=some l.length:=by
 unfold ixN
 simp
 omega
theorem axG{l:List V}{v u:V}:(l++[v]).set l.length u=l++[u]:=by simp
theorem axM(f:Nat->Int):∀n,(pgN f n).length<=n
 |0=>aV _
 |n+1=>by
  have ih:=axM f n
  show (aoY (pgN f n) _ _ _).length<=_
  unfold aoY
  split
  ·split
   ·rename_i s hs _
    rw[aW,List.length_dropLast]
    show _-1+1<=_
    omega
   ·rw[aW]
    show _+1<=_
    omega
  ·show 1<=_
   omega
noncomputable def tuF(f:DF):DF:=fun k j=>Builtin.bitXor allT (f k j)
noncomputable def lsF(f g:DF):DF:=fun k j=>Builtin.bitAnd (f k j) (Builtin.bitNot (g k j))
noncomputable def zF:DF:=fun _ _=>0
theorem aH1{A:Addr->Prop}{c:Cs}{CR:Addr}{H:Hp}{v:V}{tm:Int}{f:DF}(h:RwP A c CR H v tm f):Wt f:=by
 obtain⟨_,_,_,_,_,_,_,_,_,_,_,h3,_,_,_,_,rfl⟩:=h
 intro k j
 unfold acO
 split
 ·exact h3.2
 ·exact akN
theorem acM{A:Addr->Prop}{c:Cs}{CR:Addr}{H:Hp}:∀(n:Nat) {v:V} {f:DF},TrP A c CR n H v f->Wt f
 |0,_,_,h=>h.elim
 |n+1,_,_,h=>by
  obtain⟨t,l,wd,rfl,h1,hA,h⟩:=h
  rcases h with ⟨e,h2,rfl⟩ | ⟨e,r,tm,h2,h3⟩ | ⟨us,fs,⟨e,rfl⟩ | ⟨e,rfl⟩,h2,h3,h4⟩ | ⟨e,u1,u2,a,b,h2,h3,h4,rfl⟩ | ⟨e,u1,a,h2,h3,rfl⟩
  ·exact aII
  ·exact aH1 h3
  ·exact aCM fun f hf=>by
    obtain⟨a,_,ha⟩:=abL h3 f hf
    exact acM n ha
  ·exact awX fun f hf=>by
    obtain⟨a,_,ha⟩:=abL h3 f hf
    exact acM n ha
  ·exact aC2 (acM n h3) (acM n h4)
  ·exact aC1 (acM n h3)
theorem agQ{A:Addr->Prop}{c:Cs}{CR:Addr}{H:Hp}:∀(n:Nat) {v:V} {f:DF},TrP A c CR n H v f->TrP A c CR (n+1) H v f
 |0,_,_,h=>h.elim
 |n+1,_,_,h=>by
  obtain⟨t,l,wd,rfl,h1,hA,h⟩:=h
  refine⟨t,l,wd,rfl,h1,hA,?_⟩
  rcases h with h | h | ⟨us,fs,e,h2,h3,h4⟩ | ⟨e,u1,u2,a,b,h2,h3,h4,ef⟩ | ⟨e,u1,a,h2,h3,ef⟩
  ·exact .inl h
  ·exact .inr (.inl h)
  ·exact .inr (.inr (.inl ⟨us,fs,e,h2,Paired.mapP h3 fun _ _ z=>agQ n z,h4⟩))
  ·exact .inr (.inr (.inr (.inl ⟨e,u1,u2,a,b,h2,agQ n h3,agQ n h4,ef⟩)))
  ·exact .inr (.inr (.inr (.inr ⟨e,u1,a,h2,agQ n h3,ef⟩)))
theorem aiZ{A:Addr->Prop}{c:Cs}{CR CB CO CJ CM CL CT:Addr}{H:Hp}:∀(n:Nat) {v:V} {f:DF},BsP A c CR CB CO CJ CM CL CT n H v f->BsP A c CR CB CO CJ CM CL CT (n+1) H v f
 |0,_,_,h=>h.elim
 |n+1,_,_,h=>by
  obtain⟨x,rfl,h⟩:=h
  refine⟨x,rfl,?_⟩
  rcases h with h | h | ⟨dx,t,vs,fs,hx,h1,hp,e⟩ | ⟨dx,t,vs,fs,hx,h1,hp,e⟩ | ⟨dx,v1,v2,a,b,hx,h1,h2,e⟩ | ⟨dx,v1,a,hx,h1,e⟩
  ·exact .inl h
  ·exact .inr (.inl h)
  ·exact .inr (.inr (.inl ⟨dx,t,vs,fs,hx,h1,Paired.mapP hp fun _ _ z=>aiZ n z,e⟩))
  ·exact .inr (.inr (.inr (.inl ⟨dx,t,vs,fs,hx,h1,Paired.mapP hp fun _ _ z=>aiZ n z,e⟩)))
  ·exact .inr (.inr (.inr (.inr (.inl ⟨dx,v1,v2,a,b,hx,aiZ n h1,aiZ n h2,e⟩))))
  ·exact .inr (.inr (.inr (.inr (.inr ⟨dx,v1,a,hx,aiZ n h1,e⟩))))
theorem arL{A:Addr->Prop}{c:Cs}{CR CB CO CJ CM CL CT:Addr}{H:Hp}{n:Nat}{v:V}{f:DF}(h:BsP A c CR CB CO CJ CM CL CT n H v f):∀{m:Nat},n<=m->BsP A c CR CB CO CJ CM CL CT m H v f
 |m,hm=>by
  obtain⟨d,rfl⟩:∃d,m=n+d:=⟨m-n,by omega⟩
  clear hm
  induction d with
  |zero=>exact h
  |succ d ih=>exact aiZ _ ih
noncomputable def Bq(A:Addr->Prop)(c:Cs)(CR CB CO CJ CM CL CT:Addr)(n:Nat)(T:Int)(H:Hp)(v:V)(f:DF):Prop:=BsP A c CR CB CO CJ CM CL CT n H v f/\∃t d,acD CB CO CJ CM CL CT 6 H v (t,d)/\t<=T/\d<=(n:Int)
section
variable{A:Addr->Prop}{c:Cs}{CR CB CO CJ CM CL CT:Addr}{H:Hp}{v:V}{f:DF}
theorem aaM{H':Hp}{n:Nat}{T:Int}(s:Same H H')(h:Bq A c CR CB CO CJ CM CL CT n T H v f):Bq A c CR CB CO CJ CM CL CT n T H' v f:=by
 obtain⟨h1,t,d,h2,h3⟩:=h
 exact⟨abF (fun _ z=>z) s n h1,t,d,aaX s 6 h2,h3⟩
theorem ae3{n m:Nat}{T U:Int}(hn:n<=m)(hT:T<=U)(h:Bq A c CR CB CO CJ CM CL CT n T H v f):Bq A c CR CB CO CJ CM CL CT m U H v f:=by
 obtain⟨h1,t,d,h2,h3,h4⟩:=h
 exact⟨arL h1 hn,t,d,h2,by omega,by omega⟩
theorem au3{B:Int}:∀{is:List Int},(∀i∈is,i<=B)->is.sum<=is.length*B
 |[],_=>by show (0:Int)<=((0:Nat):Int)*B;rw[Int.natCast_zero,Int.zero_mul];exact a8 0
 |i::r,h=>by
  have h1:=h i (bO ..)
  have h2:=au3 (is:=r) fun z hz=>h z (bF _ hz)
  rw[List.sum_cons,bJ]
  have:((r.length+1:Nat):Int)*B=r.length*B+B:=by rw[Int.natCast_add,Int.add_mul];show _+1*B=_;rw[Int.one_mul]
  omega
theorem aB0{K:FG}{n:Nat}{T U:Int}{us:List V}{fs:List DF}(hp:Paired (Bq A c CR CB CO CJ CM CL CT n T H) us fs)(h0:us≠[])(hn:n<=4)(hU:1+us.length*T<=U)(h24:U<=24):∃t d,Vd K CB CO CJ CM CL CT H us (some (t,d))/\t<=U/\d<=((n+1:Nat):Int):=by
 have ex:∃tds,Paired (acD CB CO CJ CM CL CT 6 H) us tds/\∀td∈tds,td.1<=T/\td.2<=(n:Int):=by
  clear h0 hU
  induction hp with
  |nil=>exact⟨[],.nil,fun _ h=>nomatch h⟩
  |cons h _ ih=>
   obtain⟨tds,q1,q2⟩:=ih
   obtain⟨_,t,d,h2,h3⟩:=h
   exact⟨(t,d)::tds,.cons h2 q1,fun td htd=>(aX.mp htd).elim (fun e=>by rw[e];exact h3) (q2 td)⟩
 obtain⟨tds,q1,q2⟩:=ex
 have ln:=Paired.length q1
 obtain⟨m,hm,hmax⟩:=auC (is:=tds.map Prod.snd) (fun e=>by have e':=congrArg List.length e;rw[aU,←ln] at e';exact h0 (dI e'))
 have s2:=au3 (B:=T) (is:=tds.map Prod.fst) fun i hi=>by
  obtain⟨td,htd,rfl⟩:=bR.mp hi
  exact (q2 td htd).1
 rw[aU,←ln] at s2
 have hmn:m<=(n:Int):=by
  obtain⟨td,htd,rfl⟩:=bR.mp hm
  exact (q2 td htd).2
 have hpos:0<us.length:=Nat.pos_of_ne_zero fun e=>h0 (dI e)
 refine⟨1+(tds.map Prod.fst).sum,m+1,⟨tds,q1,hpos,rfl,by show 1+(tds.map Prod.fst).sum<=24;omega,fun z hz=>by have:=hmax z hz;show z<m+1;omega,by show m+1-1∈_;rw[show m+1-1=m by omega];exact hm,by show m+1<=5;omega⟩,by omega,by have:((n+1:Nat):Int)=(n:Int)+1:=rfl;omega⟩
variable{K:FG}{CN x dx:Addr}{Q:VK}{E:XK}
theorem mkTq{n:Nat}{T:Int}(h:Bq A c CR CB CO CJ CM CL CT n T H v f)(hn:n<=4)(hT:T<=23)(q:∀H',Same H H'->Bq A c CR CB CO CJ CM CL CT (n+1) (1+T) H' (.ref x) (fun k j=>Builtin.bitXor allT (f k j))->Q .non H')(nx:H x=none)(nd:H dx=none):aAK K CT CN CB CO CJ CM CL CT (.ref x::([v]++[])) (upd (upd H dx (.own x)) x (.ins CT dx [])) Q E:=by
 obtain⟨t,d,hV,ht,hd⟩:=aB0 (K:=K) (us:=[v]) (fs:=[f]) (.cons h .nil) (bN _ _) hn (U:=1+T) (by show 1+((1:Nat):Int)*T<=_;rw[show ((1:Nat):Int)=1 from rfl,Int.one_mul];exact a8 _) (by omega)
 exact mkT hV (fun H' s' hb hx=>q H' s' ⟨⟨x,rfl,.inr (.inr (.inr (.inr (.inr ⟨dx,v,f,hx,abF (fun _ z=>z) s' n h.1,rfl⟩))))⟩,t,d,hb,ht,hd⟩) nx nd
theorem mkLq{n:Nat}{T:Int}{u:V}{g:DF}(h:Bq A c CR CB CO CJ CM CL CT n T H v f)(h':Bq A c CR CB CO CJ CM CL CT n T H u g)(hn:n<=4)(hT:1+2*T<=24)(q:∀H',Same H H'->Bq A c CR CB CO CJ CM CL CT (n+1) (1+2*T) H' (.ref x) (fun k j=>Builtin.bitAnd (f k j) (Builtin.bitNot (g k j)))->Q .non H')(nx:H x=none)(nd:H dx=none):aBR K CL CN CB CO CJ CM CL CT (.ref x::([v,u]++[])) (upd (upd H dx (.own x)) x (.ins CL dx [])) Q E:=by
 obtain⟨t,d,hV,ht,hd⟩:=aB0 (K:=K) (us:=[v,u]) (fs:=[f,g]) (.cons h (.cons h' .nil)) (bN _ _) hn (U:=1+2*T) (by show 1+((2:Nat):Int)*T<=_;exact a8 _) hT
 exact mkL hV (fun H' s' hb hx=>q H' s' ⟨⟨x,rfl,.inr (.inr (.inr (.inr (.inl ⟨dx,v,u,f,g,hx,abF (fun _ z=>z) s' n h.1,abF (fun _ z=>z) s' n h'.1,rfl⟩))))⟩,t,d,hb,ht,hd⟩) nx nd
theorem mkJq{n N:Nat}{T:Int}{a:Addr}{us:List V}{fs:List DF}(hS:H a=some (.lst us))(hp:Paired (Bq A c CR CB CO CJ CM CL CT n T H) us fs)(hN:us.length=N)(h0:1<=N)(h8:N<=8)(hn:n<=4)(hT:1+N*T<=24)(q:∀H',Same H H'->Bq A c CR CB CO CJ CM CL CT (n+1) (1+N*T) H' (.ref x) (orF fs)->Q .non H')(nx:H x=none)(nd:H dx=none):asT K CJ CN CB CO CJ CM CL CT (.ref x::([.ref a]++[])) (upd (upd H dx (.own x)) x (.ins CJ dx [])) Q E:=by
 subst hN
 obtain⟨t,d,hV,ht,hd⟩:=aB0 (K:=K) hp (fun e=>by rw[e] at h0;exact absurd h0 (by decide)) hn (a8 _) hT
 exact mkJ (.inl rfl) (SqL.of hS) h8 hV (fun H' s' hb ⟨dx',t',hx,ht'⟩=>q H' s' ⟨⟨x,rfl,.inr (.inr (.inl ⟨dx',t',us,fs,hx,ht',Paired.mapP hp fun _ _ z=>abF (fun _ z=>z) s' n z.1,rfl⟩))⟩,t,d,hb,ht,hd⟩) nx nd
theorem mkMq{n N:Nat}{T:Int}{a:Addr}{us:List V}{fs:List DF}(hS:H a=some (.lst us))(hp:Paired (Bq A c CR CB CO CJ CM CL CT n T H) us fs)(hN:us.length=N)(h0:1<=N)(h8:N<=8)(hn:n<=4)(hT:1+N*T<=24)(q:∀H',Same H H'->Bq A c CR CB CO CJ CM CL CT (n+1) (1+N*T) H' (.ref x) (anF fs)->Q .non H')(nx:H x=none)(nd:H dx=none):asT K CM CN CB CO CJ CM CL CT (.ref x::([.ref a]++[])) (upd (upd H dx (.own x)) x (.ins CM dx [])) Q E:=by
 subst hN
 obtain⟨t,d,hV,ht,hd⟩:=aB0 (K:=K) hp (fun e=>by rw[e] at h0;exact absurd h0 (by decide)) hn (a8 _) hT
 exact mkJ (.inr rfl) (SqL.of hS) h8 hV (fun H' s' hb ⟨dx',t',hx,ht'⟩=>q H' s' ⟨⟨x,rfl,.inr (.inr (.inr (.inl ⟨dx',t',us,fs,hx,ht',Paired.mapP hp fun _ _ z=>abF (fun _ z=>z) s' n z.1,rfl⟩)))⟩,t,d,hb,ht,hd⟩) nx nd
theorem mkBq(x dx:Addr)(H:Hp):Bq A c CR CB CO CJ CM CL CT 1 1 (upd (upd H dx (.own x)) x (.ins CB dx [])) (.ref x) (fun _ _=>0):=⟨⟨x,rfl,.inl ⟨dx,aaA,rfl⟩⟩,1,1,mkB x dx H,by decide,by decide⟩
noncomputable def PrA(A:Addr->Prop)(c:Cs)(CR CB CO CJ CM CL CT:Addr)(H:Hp)(p:Addr):Prop:=∃(u v:V) (f g:DF),H p=some (.tup [u,v])/\BsP A c CR CB CO CJ CM CL CT 5 H u f/\BsP A c CR CB CO CJ CM CL CT 5 H v g/\f=g/\Wt f
theorem aaS{H':Hp}{p:Addr}(s:Same H H')(h:PrA A c CR CB CO CJ CM CL CT H p):PrA A c CR CB CO CJ CM CL CT H' p:=by
 obtain⟨u,v,f,g,h1,h2,h3,h4⟩:=h
 exact⟨u,v,f,g,s _ _ h1,abF (fun _ z=>z) s 5 h2,abF (fun _ z=>z) s 5 h3,h4⟩
theorem aAC{p D:Addr}{l l':List V}(hD:H D=some (.lst l))(na:∀p,A p->p≠D)(h:PrA A c CR CB CO CJ CM CL CT H p):PrA A c CR CB CO CJ CM CL CT (upd H D (.lst l')) p:=by
 obtain⟨u,v,f,g,h1,h2,h3,h4⟩:=h
 exact⟨u,v,f,g,by rw[aaE (fun e=>by rw[e,hD] at h1;cases h1)];exact h1,akS hD na 5 h2,akS hD na 5 h3,h4⟩
theorem acG{H0:Hp}{l t:Addr}{ps:List Addr}(hl0:H0 l=none)(s:Same H0 H)(hl:H l=some (.lst (ps.map V.ref)))(hp:∀p∈ps,PrA A c CR CB CO CJ CM CL CT H p)(na:∀p,A p->p≠l)(ht:PrA A c CR CB CO CJ CM CL CT H t):Same H0 (upd H l (.lst (ps.map V.ref++[.ref t])))/\upd H l (.lst (ps.map V.ref++[.ref t])) l=some (.lst ((ps++[t]).map V.ref))/\∀p∈ps++[t],PrA A c CR CB CO CJ CM CL CT (upd H l (.lst (ps.map V.ref++[.ref t]))) p:=
 ⟨ab2 hl0 s,by rw[aaA,aZ];rfl,fun p hp'=>aAC hl na ((bZ.mp hp').elim (hp p) fun e=>by rw[bQ.mp e];exact ht)⟩
theorem aoM{D:Addr}{n:Nat}{T:Int}{l l':List V}(hD:H D=some (.lst l))(na:∀p,A p->p≠D)(h:Bq A c CR CB CO CJ CM CL CT n T H v f):Bq A c CR CB CO CJ CM CL CT n T (upd H D (.lst l')) v f:=by
 obtain⟨h1,t,d,h2,h3⟩:=h
 exact⟨akS hD na n h1,t,d,aiC hD 6 h2,h3⟩
theorem aFH{n:Nat}(h:BsP A c CR CB CO CJ CM CL CT n H v f):BsP (fun p=>H p≠none) c CR CB CO CJ CM CL CT n H v f:=afD (fun _ _ z _=>z) (fun z=>aFK z) n h
theorem azF{n:Nat}{T:Int}(h:Bq A c CR CB CO CJ CM CL CT n T H v f):Bq (fun p=>H p≠none) c CR CB CO CJ CM CL CT n T H v f:=⟨aFH h.1,h.2⟩
theorem aD6{t:Addr}{u:V}{g:DF}{n m:Nat}{T U:Int}(ht:H t=none)(h1:Bq A c CR CB CO CJ CM CL CT n T H v f)(h2:Bq A c CR CB CO CJ CM CL CT m U H u g)(hn:n<=5)(hm:m<=5)(e:f=g)(hw:Wt f):PrA A c CR CB CO CJ CM CL CT (upd H t (.tup [v,u])) t:=⟨v,u,f,g,aaA,arL (aaM (aaB ht _) h1).1 hn,arL (aaM (aaB ht _) h2).1 hm,e,hw⟩
noncomputable def Q3(A:Addr->Prop)(c:Cs)(CR CB CO CJ CM CL CT:Addr)(va vb vc:V)(f g h:DF)(H:Hp):Prop:=Bq A c CR CB CO CJ CM CL CT 2 4 H va f/\Bq A c CR CB CO CJ CM CL CT 2 4 H vb g/\Bq A c CR CB CO CJ CM CL CT 2 4 H vc h
theorem Q3.mv{va vb vc:V}{g h:DF}{H':Hp}(x:Q3 A c CR CB CO CJ CM CL CT va vb vc f g h H)(s:Same H H'):Q3 A c CR CB CO CJ CM CL CT va vb vc f g h H':=⟨aaM s x.1,aaM s x.2.1,aaM s x.2.2⟩
theorem abX{D:Addr}{va vb vc:V}{g h:DF}{l l':List V}(hD:H D=some (.lst l))(na:∀p,A p->p≠D)(x:Q3 A c CR CB CO CJ CM CL CT va vb vc f g h H):Q3 A c CR CB CO CJ CM CL CT va vb vc f g h (upd H D (.lst l')):=⟨aoM hD na x.1,aoM hD na x.2.1,aoM hD na x.2.2⟩
theorem rT{n:Nat}{T:Int}{R:Addr->Hp->Prop}(h:Bq A c CR CB CO CJ CM CL CT n T H v f)(k:∀x H',Same H H'->Bq A c CR CB CO CJ CM CL CT (n+1) (1+T) H' (.ref x) (tuF f)->R x H')(hn:n<=4:=by decide)(hT:T<=23:=by decide):∀x dx,H x=none->H dx=none->dx≠x->aAK K CT CN CB CO CJ CM CL CT (.ref x::([v]++[])) (upd (upd H dx (.own x)) x (.ins CT dx [])) (fun v H2=>v=.non/\R x H2) E:=
 fun x dx nx nd _=>mkTq h hn hT (fun H' s' q'=>⟨rfl,k x H' s' q'⟩) nx nd
theorem rL{n:Nat}{T:Int}{u:V}{g:DF}{R:Addr->Hp->Prop}(h:Bq A c CR CB CO CJ CM CL CT n T H v f)(h':Bq A c CR CB CO CJ CM CL CT n T H u g)(k:∀x H',Same H H'->Bq A c CR CB CO CJ CM CL CT (n+1) (1+2*T) H' (.ref x) (lsF f g)->R x H')(hn:n<=4:=by decide)(hT:1+2*T<=24:=by decide):∀x dx,H x=none->H dx=none->dx≠x->aBR K CL CN CB CO CJ CM CL CT (.ref x::([v,u]++[])) (upd (upd H dx (.own x)) x (.ins CL dx [])) (fun v H2=>v=.non/\R x H2) E:=
 fun x dx nx nd _=>mkLq h h' hn hT (fun H' s' q'=>⟨rfl,k x H' s' q'⟩) nx nd
theorem rJ{n N:Nat}{T:Int}{us:List V}{fs:List DF}{R:Addr->Hp->Prop}(hp:Paired (Bq A c CR CB CO CJ CM CL CT n T H) us fs)(k:∀x H',Same H H'->Bq A c CR CB CO CJ CM CL CT (n+1) (1+N*T) H' (.ref x) (orF fs)->R x H')(hN:us.length=N:=by rfl)(h0:1<=N:=by decide)(h8:N<=8:=by decide)(hn:n<=4:=by decide)(hT:1+N*T<=24:=by decide):us.length<=sizeLine/\∀l,H l=none->∀x dx,upd H l (.lst us) x=none->upd H l (.lst us) dx=none->dx≠x->asT K CJ CN CB CO CJ CM CL CT (.ref x::([.ref l]++[])) (upd (upd (upd H l (.lst us)) dx (.own x)) x (.ins CJ dx [])) (fun v H2=>v=.non/\R x H2) E:=
 ⟨by rw[hN,dY];omega,fun l hl x dx nx nd _=>mkJq aaA (Paired.mapP hp fun _ _ z=>aaM (aaB hl _) z) hN h0 h8 hn hT (fun H' s' q'=>⟨rfl,k x H' ((aaB hl _).trans s') q'⟩) nx nd⟩
theorem rM{n N:Nat}{T:Int}{us:List V}{fs:List DF}{R:Addr->Hp->Prop}(hp:Paired (Bq A c CR CB CO CJ CM CL CT n T H) us fs)(k:∀x H',Same H H'->Bq A c CR CB CO CJ CM CL CT (n+1) (1+N*T) H' (.ref x) (anF fs)->R x H')(hN:us.length=N:=by rfl)(h0:1<=N:=by decide)(h8:N<=8:=by decide)(hn:n<=4:=by decide)(hT:1+N*T<=24:=by decide):us.length<=sizeLine/\∀l,H l=none->∀x dx,upd H l (.lst us) x=none->upd H l (.lst us) dx=none->dx≠x->asT K CM CN CB CO CJ CM CL CT (.ref x::([.ref l]++[])) (upd (upd (upd H l (.lst us)) dx (.own x)) x (.ins CM dx [])) (fun v H2=>v=.non/\R x H2) E:=
 ⟨by rw[hN,dY];omega,fun l hl x dx nx nd _=>mkMq aaA (Paired.mapP hp fun _ _ z=>aaM (aaB hl _) z) hN h0 h8 hn hT (fun H' s' q'=>⟨rfl,k x H' ((aaB hl _).trans s') q'⟩) nx nd⟩
theorem rZ{R:Addr->Addr->Prop}{va vb vc:V}{g h:DF}(_:Q3 A c CR CB CO CJ CM CL CT va vb vc f g h H)(k:∀x dx,Same H (upd (upd H dx (.own x)) x (.ins CB dx []))->Bq A c CR CB CO CJ CM CL CT 1 1 (upd (upd H dx (.own x)) x (.ins CB dx [])) (.ref x) zF->R x dx):∀x dx,H x=none->H dx=none->dx≠x->R x dx:=fun x dx nx nd _=>k x dx (ab0 nx nd) (mkBq x dx H)
theorem rP{R:Addr->Prop}{u:V}{g:DF}{n m:Nat}{T U:Int}(h1:Bq A c CR CB CO CJ CM CL CT n T H v f)(h2:Bq A c CR CB CO CJ CM CL CT m U H u g)(e:f=g)(hw:Wt f)(k:∀t,Same H (upd H t (.tup [v,u]))->PrA A c CR CB CO CJ CM CL CT (upd H t (.tup [v,u])) t->R t)(hn:n<=5:=by decide)(hm:m<=5:=by decide):[v,u].length<=sizeLine/\∀t,H t=none->R t:=⟨by show 2<=sizeLine;decide,fun t ht=>k t (aaB ht _) (aD6 ht h1 h2 hn hm e hw)⟩
noncomputable def pI(A:Addr->Prop)(c:Cs)(CR CB CO CJ CM CL CT:Addr)(H0:Hp)(va vb vc:V)(f g h:DF)(n:Nat)(σ:L2.St)(H:Hp):Prop:=∃(l:Addr) (ps:List Addr),σ=[some va,some vb,some vc,some (.ref l)]/\H0 l=none/\Same H0 H/\H l=some (.lst (ps.map V.ref))/\ps.length=n/\(∀p∈ps,PrA A c CR CB CO CJ CM CL CT H p)/\Q3 A c CR CB CO CJ CM CL CT va vb vc f g h H
end
section
variable{a b c:DF}
theorem acP{f g:DF}(hf:Wt f)(hg:Wt g)(h:∀k j i,tb (f k j) i=tb (g k j) i):f=g:=by
 funext k j
 exact abZ (hf k j).1 (hg k j).1 (h k j)
theorem aa9(ha:Wt a)(hb:Wt b):Wt (orF [a,b]):=aCM fun f hf=>by
 simp only[aX,bV,or_false] at hf
 rcases hf with rfl | rfl
 ·exact ha
 ·exact hb
theorem abI(ha:Wt a)(hb:Wt b):Wt (anF [a,b]):=awX fun f hf=>by
 simp only[aX,bV,or_false] at hf
 rcases hf with rfl | rfl
 ·exact ha
 ·exact hb
theorem aLI(ha:Wt a)(hb:Wt b)(hc:Wt c):Wt (anF [a,b,c]):=awX fun f hf=>by
 simp only[aX,bV,or_false] at hf
 rcases hf with rfl | rfl | rfl
 ·exact ha
 ·exact hb
 ·exact hc
theorem acS(ha:Wt a)(hb:Wt b)(k:Int)(j i:Nat):tb (orF [a,b] k j) i=(tb (a k j) i||tb (b k j) i):=by
 show tb (Builtin.bitOr (Builtin.bitOr 0 (a k j)) (b k j)) i=_
 rw[aKT (ha k j).1,alQ (ha k j).1 (hb k j).1]
theorem adF(ha:Wt a)(hb:Wt b)(k:Int)(j i:Nat):tb (anF [a,b] k j) i=(tb (a k j) i&&tb (b k j) i):=by
 show tb (Builtin.bitAnd (Builtin.bitAnd allT (a k j)) (b k j)) i=_
 rw[ao4 (ha k j),adA (ha k j).1 (hb k j).1]
theorem aF1(ha:Wt a)(hb:Wt b)(hc:Wt c)(k:Int)(j i:Nat):tb (anF [a,b,c] k j) i=((tb (a k j) i&&tb (b k j) i)&&tb (c k j) i):=by
 show tb (Builtin.bitAnd (Builtin.bitAnd (Builtin.bitAnd allT (a k j)) (b k j)) (c k j)) i=_
 rw[ao4 (ha k j),adA (ao5 (ha k j) (hb k j).1).1 (hc k j).1,adA (ha k j).1 (hb k j).1]
theorem ab9(ha:Wt a):Wt (tuF a):=aC1 ha
theorem afU(ha:Wt a)(hb:Wt b):Wt (lsF a b):=aC2 ha hb
theorem aoZ:Wt zF:=aII
theorem ahR(ha:Wt a)(k:Int)(j i:Nat):tb (tuF a k j) i=(decide (i<1440)&& !tb (a k j) i):=aoL (ha k j) i
theorem atN(ha:Wt a)(hb:Wt b)(k:Int)(j i:Nat):tb (lsF a b k j) i=(tb (a k j) i&& !tb (b k j) i):=afL (ha k j).1 (hb k j).1 i
theorem aEU(k:Int)(j i:Nat):tb (zF k j) i=false:=acJ i
theorem aa8(ha:Wt a)(k:Int)(j i:Nat):tb (a k j) i=(decide (i<1440)&&tb (a k j) i):=by
 cases c:tb (a k j) i
 ·rw[Bool.and_false]
 ·rw[d6 (ai9 (ha k j) c)];rfl
theorem id0(ha:Wt a)(hb:Wt b)(hc:Wt c):(tuF (tuF a))=a:=acP (ab9 (ab9 ha)) ha fun k j i=>by
 simp only[ahR (ab9 ha),ahR ha]
 rw[aa8 ha]
 cases decide (i<1440)<;>cases tb (a k j) i<;>rfl
theorem id1(ha:Wt a)(hb:Wt b)(hc:Wt c):(orF [a,b])=(orF [b,a]):=acP (aa9 ha hb) (aa9 hb ha) fun k j i=>by
 simp only[acS ha hb,acS hb ha]
 rw[aa8 ha,aa8 hb]
 cases decide (i<1440)<;>cases tb (a k j) i<;>cases tb (b k j) i<;>rfl
theorem id2(ha:Wt a)(hb:Wt b)(hc:Wt c):(anF [a,b])=(anF [b,a,b]):=acP (abI ha hb) (aLI hb ha hb) fun k j i=>by
 simp only[adF ha hb,aF1 hb ha hb]
 rw[aa8 ha,aa8 hb]
 cases decide (i<1440)<;>cases tb (a k j) i<;>cases tb (b k j) i<;>rfl
theorem id3(ha:Wt a)(hb:Wt b)(hc:Wt c):(tuF (orF [a,b]))=(anF [(tuF a),(tuF b)]):=acP (ab9 (aa9 ha hb)) (abI (ab9 ha) (ab9 hb)) fun k j i=>by
 simp only[ahR (aa9 ha hb),acS ha hb,adF (ab9 ha) (ab9 hb),ahR ha,ahR hb]
 rw[aa8 ha,aa8 hb]
 cases decide (i<1440)<;>cases tb (a k j) i<;>cases tb (b k j) i<;>rfl
theorem id4(ha:Wt a)(hb:Wt b)(hc:Wt c):(tuF (anF [a,b]))=(orF [(tuF a),(tuF b)]):=acP (ab9 (abI ha hb)) (aa9 (ab9 ha) (ab9 hb)) fun k j i=>by
 simp only[ahR (abI ha hb),adF ha hb,acS (ab9 ha) (ab9 hb),ahR ha,ahR hb]
 rw[aa8 ha,aa8 hb]
 cases decide (i<1440)<;>cases tb (a k j) i<;>cases tb (b k j) i<;>rfl
theorem id5(ha:Wt a)(hb:Wt b)(hc:Wt c):(lsF a b)=(anF [a,(tuF b)]):=acP (afU ha hb) (abI ha (ab9 hb)) fun k j i=>by
 simp only[atN ha hb,adF ha (ab9 hb),ahR hb]
 rw[aa8 ha,aa8 hb]
 cases decide (i<1440)<;>cases tb (a k j) i<;>cases tb (b k j) i<;>rfl
theorem id6(ha:Wt a)(hb:Wt b)(hc:Wt c):(orF [a,(anF [a,b])])=a:=acP (aa9 ha (abI ha hb)) ha fun k j i=>by
 simp only[acS ha (abI ha hb),adF ha hb]
 rw[aa8 ha,aa8 hb]
 cases decide (i<1440)<;>cases tb (a k j) i<;>cases tb (b k j) i<;>rfl
theorem id7(ha:Wt a)(hb:Wt b)(hc:Wt c):(anF [a,(orF [a,b])])=a:=acP (abI ha (aa9 ha hb)) ha fun k j i=>by
 simp only[adF ha (aa9 ha hb),acS ha hb]
 rw[aa8 ha,aa8 hb]
 cases decide (i<1440)<;>cases tb (a k j) i<;>cases tb (b k j) i<;>rfl
theorem id8(ha:Wt a)(hb:Wt b)(hc:Wt c):(anF [a,(orF [b,c])])=(orF [(anF [a,b]),(anF [a,c])]):=acP (abI ha (aa9 hb hc)) (aa9 (abI ha hb) (abI ha hc)) fun k j i=>by
 simp only[adF ha (aa9 hb hc),acS hb hc,acS (abI ha hb) (abI ha hc),adF ha hb,adF ha hc]
 rw[aa8 ha,aa8 hb,aa8 hc]
 cases decide (i<1440)<;>cases tb (a k j) i<;>cases tb (b k j) i<;>cases tb (c k j) i<;>rfl
theorem id9(ha:Wt a)(hb:Wt b)(hc:Wt c):(orF [a,(anF [b,c])])=(anF [(orF [a,b]),(orF [a,c])]):=acP (aa9 ha (abI hb hc)) (abI (aa9 ha hb) (aa9 ha hc)) fun k j i=>by
 simp only[acS ha (abI hb hc),adF hb hc,adF (aa9 ha hb) (aa9 ha hc),acS ha hb,acS ha hc]
 rw[aa8 ha,aa8 hb,aa8 hc]
 cases decide (i<1440)<;>cases tb (a k j) i<;>cases tb (b k j) i<;>cases tb (c k j) i<;>rfl
theorem id10(ha:Wt a)(hb:Wt b)(hc:Wt c):(lsF a a)=zF:=acP (afU ha ha) aoZ fun k j i=>by
 simp only[atN ha ha,aEU]
 rw[aa8 ha]
 cases decide (i<1440)<;>cases tb (a k j) i<;>rfl
theorem id11(ha:Wt a)(hb:Wt b)(hc:Wt c):(orF [a,(tuF a)])=(tuF zF):=acP (aa9 ha (ab9 ha)) (ab9 aoZ) fun k j i=>by
 simp only[acS ha (ab9 ha),ahR ha,ahR aoZ,aEU]
 rw[aa8 ha]
 cases decide (i<1440)<;>cases tb (a k j) i<;>rfl
theorem id12(ha:Wt a)(hb:Wt b)(hc:Wt c):(lsF (lsF a b) c)=(lsF a (orF [b,c])):=acP (afU (afU ha hb) hc) (afU ha (aa9 hb hc)) fun k j i=>by
 simp only[atN (afU ha hb) hc,atN ha hb,atN ha (aa9 hb hc),acS hb hc]
 rw[aa8 ha,aa8 hb,aa8 hc]
 cases decide (i<1440)<;>cases tb (a k j) i<;>cases tb (b k j) i<;>cases tb (c k j) i<;>rfl
theorem id13(ha:Wt a)(hb:Wt b)(hc:Wt c):(orF [(lsF a b),(anF [a,b])])=a:=acP (aa9 (afU ha hb) (abI ha hb)) ha fun k j i=>by
 simp only[acS (afU ha hb) (abI ha hb),atN ha hb,adF ha hb]
 rw[aa8 ha,aa8 hb]
 cases decide (i<1440)<;>cases tb (a k j) i<;>cases tb (b k j) i<;>rfl
theorem id14(ha:Wt a)(hb:Wt b)(hc:Wt c):(tuF (lsF a b))=(orF [(tuF a),b]):=acP (ab9 (afU ha hb)) (aa9 (ab9 ha) hb) fun k j i=>by
 simp only[ahR (afU ha hb),atN ha hb,acS (ab9 ha) hb,ahR ha]
 rw[aa8 ha,aa8 hb]
 cases decide (i<1440)<;>cases tb (a k j) i<;>cases tb (b k j) i<;>rfl
theorem id15(ha:Wt a)(hb:Wt b)(hc:Wt c):(orF [zF,a])=(anF [a,(tuF zF)]):=acP (aa9 aoZ ha) (abI ha (ab9 aoZ)) fun k j i=>by
 simp only[acS aoZ ha,aEU,adF ha (ab9 aoZ),ahR aoZ]
 rw[aa8 ha]
 cases decide (i<1440)<;>cases tb (a k j) i<;>rfl
end
inductive Sn (f:Nat->Int):List Tri->Nat->Int->Prop
 |nil:Sn f [] 0 (-1)
 |snoc {l:List Tri} {m m':Nat} {t u:Int}:Sn f l m t->m<m'->(∀j,m<=j->j<m'->f j=u)->u≠t->Sn f (l++[(((m+1:Nat):Int),(m':Int),u)]) m' u
theorem azI(f:Nat->Int):∀n,(∀j,j<n->f j≠ -1)->∃t,Sn f (pgN f n) n t
 |0,_=>⟨_,.nil⟩
 |n+1,hf=>by
  obtain⟨t,h⟩:=azI f n fun j hj=>hf j (by omega)
  show ∃t,Sn f (aoY (pgN f n) ((n+1:Nat):Int) ((n+1:Nat):Int) (f n)) (n+1) t
  generalize pgN f n=L at h
  cases h with
  |nil=>exact⟨_,.snoc (l:=[]) (m:=0) (m':=1) .nil (by omega) (fun j h1 h2=>by rw[show j=0 by omega]) (hf 0 (by omega))⟩
  |@snoc l m _ t0 _ h0 hm hu hne=>
   rw[aoF]
   by_cases c:t=f n
   ·rw[if_pos c]
    exact⟨_,.snoc h0 (by omega) (fun j h1 h2=>by
     by_cases e:j=n
     ·rw[e]
     ·rw[hu j h1 (by omega),c]) (c▸hne)⟩
   ·rw[if_neg c]
    exact⟨_,.snoc (.snoc h0 hm hu hne) (by omega) (fun j h1 h2=>by rw[show j=n by omega]) fun e=>c e.symm⟩
theorem aD7{f:Nat->Int}{l L:List Tri}{z:Tri}{m':Nat}{u:Int}(h:Sn f L m' u)(e:L=l++[z]):∃m t,Sn f l m t/\z=(((m+1:Nat):Int),(m':Int),u)/\m<m'/\(∀j,m<=j->j<m'->f j=u)/\u≠t:=by
 cases h with
 |nil=>exact absurd e (by simp)
 |snoc h0 hm hu hne=>
  obtain⟨rfl,e2⟩:=List.append_inj' e rfl
  cases e2
  exact⟨_,_,h0,rfl,hm,hu,hne⟩
theorem aJS{f g:Nat->Int}{L:List Tri}{m:Nat}{t:Int}(h:Sn f L m t):∀{m':Nat} {t':Int},Sn g L m' t'->m'=m/\∀j,j<m->f j=g j:=by
 induction h with
 |nil=>
  intro m' t' h'
  generalize e:([]:List Tri)=L at h'
  cases h' with
  |nil=>exact⟨rfl,fun j hj=>absurd hj (Nat.not_lt_zero j)⟩
  |snoc=>simp at e
 |@snoc l m m1 t u h0 hm hu hne ih=>
  intro m2 t2 h'
  obtain⟨m3,t3,h3,e,hm3,hu3,_⟩:=aD7 h' rfl
  obtain⟨rfl,h4⟩:=ih h3
  have e1:(m1:Int)=m2:=congrArg (fun z:Tri=>z.2.1) e
  have e2:u=t2:=congrArg (fun z:Tri=>z.2.2) e
  obtain rfl:m1=m2:=by omega
  refine⟨rfl,fun j hj=>?_⟩
  by_cases c:j<m3
  ·exact h4 j c
  ·rw[hu j (by omega) hj,hu3 j (by omega) hj,e2]
theorem aCF{f g:Nat->Int}:∀{n:Nat},(∀j,j<n->f j=g j)->pgN f n=pgN g n
 |0,_=>rfl
 |n+1,h=>by
  show aoY (pgN f n) _ _ (f n)=aoY (pgN g n) _ _ (g n)
  rw[aCF (n:=n) fun j hj=>h j (by omega),h n (by omega)]
theorem ayU{f g:Nat->Int}{n:Nat}(hf:∀j,j<n->f j≠ -1)(hg:∀j,j<n->g j≠ -1):pgN f n=pgN g n↔(List.range n).map f=(List.range n).map g:=by
 constructor
 ·intro e
  obtain⟨t,h1⟩:=azI f n hf
  obtain⟨t',h2⟩:=azI g n hg
  rw[←e] at h2
  exact List.map_congr_left fun j hj=>(aJS h1 h2).2 j (b6.mp hj)
 ·intro e
  refine aCF fun j hj=>?_
  have:=congrArg (fun l=>l[j]?) e
  simp only[bE,dA hj] at this
  exact bA this
noncomputable def pg64(f:DF)(j:Nat):List Tri:=pgN (f (j:Int)) (lnA (j:Int)).toNat
noncomputable def shF(f:DF):List (List Tri):=(List.range 91).map (pg64 f)
noncomputable def ulB(f g:DF):Bool:=(List.range 91).any fun k=> !decide (aa2 f (k:Int)=aa2 g (k:Int))
theorem aCG{f g:DF}(hf:Wt f)(hg:Wt g):(!decide (shF f=shF g))=ulB f g:=by
 have nn:∀{f:DF},Wt f->∀(k:Int) (n j:Nat),j<n->f k j≠ -1:=fun h k n j _ e=>by have:=(h k j).1;omega
 have key:shF f=shF g↔∀k:Nat,k<91->aa2 f (k:Int)=aa2 g (k:Int):=by
  constructor
  ·intro e k hk
   have:=congrArg (fun l=>l[k]?) e
   unfold shF at this
   simp only[bE,dA hk] at this
   exact (ayU (nn hf _ _) (nn hg _ _)).mp (bA this)
  ·intro h
   exact List.map_congr_left fun k hk=>(ayU (nn hf _ _) (nn hg _ _)).mpr (h k (b6.mp hk))
 unfold ulB
 rw[cI]
 simp only[Bool.not_eq_true',decide_eq_false_iff_not,key,List.any_eq_true,b6]
 constructor
 ·intro h
  exact Classical.byContradiction fun c=>h fun k hk=>Classical.byContradiction fun c'=>c ⟨k,hk,c'⟩
 ·rintro⟨k,hk,h⟩ c
  exact h (c k hk)
theorem anX{H:Hp}{K:FG}{D:Addr}{ps:List Addr}{f:DF}(hD:H D=some (.lst (ps.map V.ref)))(hl:ps.length=91)(hg:∀(j:Nat) (p:Addr),ps[j]? =some p->arU H p (pgN (f (j:Int)) (lnA (j:Int)).toNat)):SqN K H D (shF f):=⟨ps,SqL.of hD,ap8 hl hg⟩
theorem alX{H H':Hp}{K:FG}{D:Addr}{ls:List (List Tri)}(s:Same H H')(h:SqN K H D ls):SqN K H' D ls:=by
 obtain⟨ps,h1,h2⟩:=h
 exact⟨ps,s.seq h1,Paired.mapP h2 fun _ _ ⟨us,g1,g2⟩=>⟨us,s _ _ g1,Paired.mapP g2 fun _ _ y=>ahY (fun b xs z=>s _ _ z) y⟩⟩
theorem cut1(u:V)(r:List V):akY (u::r) (some 1) none=r:=by
 have h1:HT.sIx (u::r).length 0 (some 1)=1:=by
  unfold HT.sIx
  rw[bJ]
  simp
  try omega
 have h2:HT.sIx (u::r).length (u::r).length none=(u::r).length:=rfl
 unfold akY
 rw[h1,h2]
 show r.take ((r.length+1)-1)=r
 rw[Nat.add_sub_cancel,bS]
noncomputable def opW(wd:List Nat)(a b:Int):Int:=if wd=[106,111,105,110] then Builtin.bitOr a b else if wd=[109,101,101,116] then Builtin.bitAnd a b else Builtin.bitAnd a (Builtin.bitNot b)
theorem op_j(a b:Int):opW [106,111,105,110] a b=Builtin.bitOr a b:=if_pos rfl
theorem op_m(a b:Int):opW [109,101,101,116] a b=Builtin.bitAnd a b:=by unfold opW;rw[if_neg (by decide),if_pos rfl]
theorem aNR(a b:Int):opW [108,101,115,115] a b=Builtin.bitAnd a (Builtin.bitNot b):=by unfold opW;rw[if_neg (by decide),if_neg (by decide)]
theorem aIN{wd:List Nat}{a b:Int}(ha:abK a)(hb:abK b):abK (opW wd a b):=by
 unfold opW
 split
 ·exact ayE ha hb
 ·split
  ·exact ao5 ha hb.1
  ·exact avB ha hb
noncomputable def foF(wd:List Nat)(g:DF)(fs:List DF):DF:=fun k j=>fs.foldl (fun a f=>opW wd a (f k j)) (g k j)
theorem aA9{wd:List Nat}{g h:DF}{fs:List DF}{i:Nat}{k:Int}{j:Nat}(e:fs[i]? =some h):foF wd g (fs.take (i+1)) k j=opW wd (foF wd g (fs.take i) k j) (h k j):=by
 unfold foF
 rw[bK,e,dF]
 rfl
theorem aGR{wd:List Nat}{g:DF}{fs:List DF}(hg:Wt g)(h:∀f∈fs,Wt f):Wt (foF wd g fs):=fun k j=>akW (g:=opW wd) (fun ha hb=>aIN ha hb) k j fs _ (hg k j) h
theorem fo_j{g:DF}{fs:List DF}(hg:Wt g):foF [106,111,105,110] g fs=orF (g::fs):=by
 funext k j
 unfold foF orF
 rw[List.foldl_cons,aKT (hg k j).1]
 congr 1
theorem fo_m{g:DF}{fs:List DF}(hg:Wt g):foF [109,101,101,116] g fs=anF (g::fs):=by
 funext k j
 unfold foF anF
 rw[List.foldl_cons,ao4 (hg k j)]
 congr 1
theorem fo_l{g h:DF}:foF [108,101,115,115] g [h]=fun k j=>Builtin.bitAnd (g k j) (Builtin.bitNot (h k j)):=by
 funext k j
 exact aNR _ _
noncomputable def akV(c:Cs)(CR:Addr)(n:Nat):Sp:=fun vs H Q _=>∃(A:Addr->Prop) (v:V) (k:Int) (f:DF),vs=[v,.int k]/\TrP A c CR n H v f/\(0<=k/\k<=90)/\∀D H',Same H H'->H' D=some (.lst ((aa2 f k).map V.int))->Q (.ref D) H'
theorem aBK{tm d:Int}(hd:0<=d)(i:Nat):tm*Builtin.bitAnd (d / 2^(1+(i:Int)).toNat) 1=if tb d (i+1)=true then tm else 0:=by
 rw[show (1+(i:Int)).toNat=i+1 by omega]
 split
 ·rename_i c
  rw[(adQ hd _).mpr c,Int.mul_one]
 ·rename_i c
  rw[(ayK hd _).mpr (by simpa using c),Int.mul_zero]
noncomputable def auP(d:Nat):List (List Nat):=[[42,32,50,32]++num d++[35,53],[50,57,32,50,32,42],[51,49,32,49,44,51,32,42],[76,87,32,50,32,42],[42,32,42,32]++num d++[35,53],[49,87,32,49,49,32,42],[51,48,32,50,32,42]]
theorem aBE{d:Nat}(hd:d<=6):∀t∈auP d,∃(w2 w3 w4:List Nat) (m3:Int) (kd kw:Option (List Mk)),t=aa1 32 [w2,w3,w4]/\FT 1 12 w3 m3/\DT false w2 kd/\DT true w4 kw/\t.length<=20:=by
 have n5:∃ko,DT true (num d++[35,53]) ko:=as6 (d:=d) (m:=1) (by omega) (by decide) (by decide) _ (by simp[wkT])
 obtain⟨k5,h5⟩:=n5
 have ld:(num d).length<=2:=(acC d (by omega)).2.2.2
 have m2:FT 1 12 [50] (abY [2]):=atM (a:=2) ⟨by decide,by decide,by decide,by decide⟩ amD.2.2.2.2
 have m11:FT 1 12 [49,49] (abY [11]):=atM (a:=11) ⟨by decide,by decide,by decide,by decide⟩ (by decide +kernel)
 have m13:∃m,FT 1 12 [49,44,51] m:=by
  obtain⟨m,h,_⟩:=axR (lo:=1) (hi:=12) (ws:=[num 1,num 3]) (nss:=[[1],[3]]) (.cons (i1 (a:=1) (by decide) (by decide) (by decide) (by decide)) (.cons (i1 (a:=3) (by decide) (by decide) (by decide) (by decide)) .nil)) (bN _ _) (by show 2<=20;decide) (by decide) (by decide)
  rw[show aa1 44 [num 1,num 3]=[49,44,51] by decide +kernel] at h
  exact⟨m,h⟩
 have mst:∃m,FT 1 12 [42] m:=by
  obtain⟨m,h,_⟩:=axR (lo:=1) (hi:=12) (ws:=[[42]]) (nss:=[acU 1 12 1]) (.cons (i0 (by decide) (by decide) (by decide)) .nil) (bN _ _) (by show 1<=20;decide) (by decide) (by decide)
  exact⟨m,h⟩
 obtain⟨q13,h13⟩:=m13
 obtain⟨qs,hst⟩:=mst
 have day:∀(n:Nat) (w:List Nat),1<=n->n<=31->w∈aj8 n->∃ko,DT false w ko:=fun n w h1 h2 hw=>apN h1 h2 w hw
 intro t ht
 simp only[auP,aX,bV,or_false] at ht
 rcases ht with rfl | rfl | rfl | rfl | rfl | rfl | rfl
 ·exact⟨[42],[50],num d++[35,53],_,_,_,by simp[aa1],m2,abE false,h5,by simp only[aW,bJ,List.length_nil];omega⟩
 ·obtain⟨k,h⟩:=day 1 [50,57] (by decide) (by decide) (by simp[aj8])
  exact⟨[50,57],[50],[42],_,_,_,rfl,m2,h,abE true,by decide⟩
 ·obtain⟨k,h⟩:=day 1 [51,49] (by decide) (by decide) (by simp[aj8])
  exact⟨[51,49],[49,44,51],[42],_,_,_,rfl,h13,h,abE true,by decide⟩
 ·obtain⟨k,h⟩:=day 1 [76,87] (by decide) (by decide) (by simp[aj8])
  exact⟨[76,87],[50],[42],_,_,_,rfl,m2,h,abE true,by decide⟩
 ·exact⟨[42],[42],num d++[35,53],_,_,_,by simp[aa1],hst,abE false,h5,by simp only[aW,bJ,List.length_nil];omega⟩
 ·obtain⟨k,h⟩:=day 1 [49,87] (by decide) (by decide) (by rw[show [49,87]=num 1++[87] by decide +kernel];simp[aj8])
  exact⟨[49,87],[49,49],[42],_,_,_,rfl,m11,h,abE true,by decide⟩
 ·obtain⟨k,h⟩:=day 30 [51,48] (by decide) (by decide) (by rw[←amD.1];simp[aj8])
  exact⟨[51,48],[50],[42],_,_,_,rfl,m2,h,abE true,by decide⟩
noncomputable def asQ(K:FG):Sp:=fun vs H Q _=>∃y:Int,vs=[.int y]/\Q (.bl (ac6 y)) H
noncomputable def at5(K:FG):Sp:=fun vs H Q _=>∃y m:Int,vs=[.int y,.int m]/\(1<=m/\m<=12)/\Q (.int (adP y m)) H
noncomputable def asN(K:FG):Sp:=fun vs H Q _=>∃k:Int,vs=[.int k]/\(0<=k/\k<=90)/\∀(p:Addr) (H':Hp),Same H H'->H' p=some (.tup ((aqQ k).map V.int))->Q (.ref p) H'
noncomputable def amU(K:FG):Sp:=fun vs H Q _=>∃l:List Nat,vs=[.str (Tx l)]/\l.length<=2000/\∀H',Same H H'->Q (.bl (apF l)) H'
noncomputable def anG(K:FG):Sp:=fun vs H Q _=>∃l:List Nat,vs=[.str (Tx l)]/\l.length<=2000/\∀H',Same H H'->Q (.bl (isW l)) H'
noncomputable def aDI(K:FG):Sp:=fun vs H Q _=>∃m n:Int,vs=[.int m,.int n]/\(0<=m/\0<=n)/\Q (.bl (tb m n.toNat)) H
noncomputable def asX(K:FG):Sp:=fun vs H Q _=>∃(a:Addr) (zs:List Int),vs=[.ref a]/\SqL K H a (zs.map V.int)/\(∀z∈zs,0<=z/\z<=100000)/\Q (.int (abY zs)) H
noncomputable def am5(K:FG):Sp:=fun vs H Q _=>∃m:Int,vs=[.int m]/\(0<=m/\Builtin.Int.intBits m<=100000)/\∀(p:Addr) (H':Hp),Same H H'->H' p=some (.lst ((aBG m).map V.int))->Q (.ref p) H'
noncomputable def aq0(K:FG):Sp:=fun vs H Q _=>∃a b s:Int,vs=[.int a,.int b,.int s]/\(0<=a/\a<=1000)/\(-1<=b/\b<=1000)/\(0<s/\s<=1000)/\∀H',Same H H'->Q (.int (afQ a b s)) H'
noncomputable def amH(K:FG):Sp:=fun vs H Q _=>∃(l:List Nat) (lo hi:Int),vs=[.str (Tx l),.int lo,.int hi]/\l.length<=600/\∀H',Same H H'->Q (oV (aa6 lo hi l)) H'
noncomputable def arA(K:FG):Sp:=fun vs H Q _=>∃(l:List Nat) (lo hi:Int),vs=[.str (Tx l),.int lo,.int hi]/\l.length<=500/\∀(r:V) (H':Hp),Same H H'->RunV H' r (aa7 lo hi l)->Q r H'
noncomputable def aj7(K:FG):Sp:=fun vs H Q _=>∃(r s:List Nat) (lo hi:Int),vs=[.str (Tx r),.str (Tx s),.int lo,.int hi]/\r.length<=400/\s.length<=400/\(0<=lo/\lo<=hi/\hi<=1000)/\∀H',Same H H'->Q (oV (abU lo hi r s)) H'
noncomputable def ap5(K:FG):Sp:=fun vs H Q _=>∃(l:List Nat) (lo hi:Int),vs=[.str (Tx l),.int lo,.int hi]/\l.length<=300/\(0<=lo/\lo<=hi/\hi<=1000)/\∀H',Same H H'->Q (oV (aaI lo hi l)) H'
noncomputable def anB(K:FG):Sp:=fun vs H Q _=>∃(l:List Nat) (lo hi:Int),vs=[.str (Tx l),.int lo,.int hi]/\l.length<=300/\(0<=lo/\lo<=hi/\hi<=1000)/\avA lo hi l/\∀H',Same H H'->Q (.int (orM (adM lo hi l))) H'
noncomputable def am8(K:FG):Sp:=fun vs H Q _=>∃d f:Int,vs=[.int d,.int f]/\Q (.int ((f+d-1)%7)) H
noncomputable def arG(K:FG):Sp:=fun vs H Q _=>∃l:Int,vs=[.int l]/\(28<=l/\l<=31)/\Q (.int (2*2^l.toNat-2)) H
noncomputable def akD(K:FG):Sp:=fun vs H Q _=>∃d l f:Int,vs=[.int d,.int l,.int f]/\Q (.int (nw d l f)) H
noncomputable def aqF(K:FG):Sp:=fun vs H Q _=>∃w f:Int,vs=[.int w,.int f]/\Q (.int (1+(w-f)%7)) H
noncomputable def aqH(K:FG)(C:Addr):Sp:=fun vs H Q _=>∃(p:Addr) (l f:Int),vs=[.ref p,.int l,.int f]/\Q (.int 0) H
noncomputable def afP(K:FG)(C:Addr):Sp:=fun vs H Q _=>∃(p dx:Addr) (m:Int),vs=[.ref p,.int m]/\H p=some (.ins C dx [])/\Q .non (upd H p (.ins C dx [("mask",.int m)]))
noncomputable def akB(K:FG)(C:Addr):Sp:=fun vs H Q _=>∃(p dx:Addr) (m l f:Int),vs=[.ref p,.int l,.int f]/\H p=some (.ins C dx [("mask",.int m)])/\Lf l f/\Q (.int (ax7 m l)) H
noncomputable def ahW(K:FG)(C:Addr):Sp:=fun vs H Q _=>∃(p dx:Addr) (m:Int),vs=[.ref p,.int m]/\H p=some (.ins C dx [])/\Q .non (upd H p (.ins C dx [("back",.int m)]))
noncomputable def apZ(K:FG)(C:Addr):Sp:=fun vs H Q _=>∃(p dx:Addr) (b l f:Int),vs=[.ref p,.int l,.int f]/\H p=some (.ins C dx [("back",.int b)])/\(0<=b/\b<=30)/\Lf l f/\Q (.int (arE b l)) H
noncomputable def aiL(K:FG)(C:Addr):Sp:=fun vs H Q _=>∃(p dx:Addr) (m:Int),vs=[.ref p,.int m]/\H p=some (.ins C dx [])/\Q .non (upd H p (.ins C dx [("day",.int m)]))
noncomputable def ao3(K:FG)(C:Addr):Sp:=fun vs H Q _=>∃(p dx:Addr) (d l f:Int),vs=[.ref p,.int l,.int f]/\H p=some (.ins C dx [("day",.int d)])/\Ok3 d l f/\Q (.int (asD d l f)) H
noncomputable def ahU(K:FG)(C:Addr):Sp:=fun vs H Q _=>∃(p dx:Addr) (l f:Int),vs=[.ref p,.int l,.int f]/\H p=some (.ins C dx [])/\Ok3 l l f/\Q (.int (1*2^(nw l l f).toNat)) H
noncomputable def aeI(K:FG)(C:Addr):Sp:=fun vs H Q _=>∃(p dx:Addr) (m:Int),vs=[.ref p,.int m]/\H p=some (.ins C dx [])/\Q .non (upd H p (.ins C dx [("mask",.int m)]))
noncomputable def aiP(K:FG)(C:Addr):Sp:=fun vs H Q _=>∃(p dx:Addr) (m l f:Int),vs=[.ref p,.int l,.int f]/\H p=some (.ins C dx [("mask",.int m)])/\(0<=m/\m<=127)/\Lf l f/\Q (.int (wkD m l f)) H
noncomputable def akJ(K:FG)(C:Addr):Sp:=fun vs H Q _=>∃(p dx:Addr) (w m:Int),vs=[.ref p,.int w,.int m]/\H p=some (.ins C dx [])/\Q .non (upd (upd H p (.ins C dx (aaY "weekday" (.int w) []))) p (.ins C dx (apD w m)))
noncomputable def aq4(K:FG)(C:Addr):Sp:=fun vs H Q _=>∃(p dx:Addr) (w m l f:Int),vs=[.ref p,.int l,.int f]/\H p=some (.ins C dx (apD w m))/\(0<=w/\w<=6)/\(1<=m/\m<=5)/\Lf l f/\Q (.int (apW w m l f)) H
noncomputable def afM(K:FG)(C:Addr):Sp:=fun vs H Q _=>∃(p dx:Addr) (m:Int),vs=[.ref p,.int m]/\H p=some (.ins C dx [])/\Q .non (upd H p (.ins C dx [("weekday",.int m)]))
noncomputable def akK(K:FG)(C:Addr):Sp:=fun vs H Q _=>∃(p dx:Addr) (w l f:Int),vs=[.ref p,.int l,.int f]/\H p=some (.ins C dx [("weekday",.int w)])/\(0<=w/\w<=6)/\Lf l f/\Q (.int (aCR w l f)) H
noncomputable def aqJ(K:FG)(aD aF aG aI aE aB aH aJ:Addr):Sp:=fun vs H Q _=>∃(b:Addr) (ps:List Addr) (ks:List Mk) (l f:Int),vs=[.ref b,.int l,.int f]/\SqL K H b (ps.map V.ref)/\Ft (MkAt (⟨aD,aF,aG,aI,aE,aB,aH,aJ⟩:Cs) H) ps ks/\(∀k∈ks,k.ok)/\Lf l f/\Q (.int (orK ks l f)) H
noncomputable def aiU(K:FG)(aD aF aG aI aE aB aH aJ:Addr):Sp:=fun vs H Q _=>∃t:List Nat,vs=[.str (Tx t)]/\t.length<=300/\∀(v:V) (H':Hp),Same H H'->MkV (⟨aD,aF,aG,aI,aE,aB,aH,aJ⟩:Cs) H' v (adC t)->Q v H'
noncomputable def aj2(K:FG):Sp:=fun vs H Q _=>∃t:List Nat,vs=[.str (Tx t)]/\t.length<=300/\∀H',Same H H'->Q (oV (wdN t)) H'
noncomputable def ae8(K:FG)(aD aF aG aI aE aB aH aJ:Addr):Sp:=fun vs H Q _=>∃t:List Nat,vs=[.str (Tx t)]/\t.length<=300/\∀(v:V) (H':Hp),Same H H'->MkV (⟨aD,aF,aG,aI,aE,aB,aH,aJ⟩:Cs) H' v (aoO t)->Q v H'
noncomputable def anL(K:FG)(aD aF aG aI aE aB aH aJ aS aT:Addr):Sp:=fun vs H Q _=>∃(l:List Nat) (lo hi:Int) (wk:Bool),vs=[.str (Tx l),.int lo,.int hi,.ref (if wk=true then aT else aS)]/\(0<=lo/\lo<=hi/\hi<=1000)/\ItemsOk wk lo hi l/\∀(p m:Addr) (qs:List Addr) (H':Hp),H m=none->Same H H'->H' p=some (.tup [.int (orM (plP lo hi (spl 44 l))),.ref m])->H' m=some (.lst (qs.map V.ref))->Ft (MkAt (⟨aD,aF,aG,aI,aE,aB,aH,aJ⟩:Cs) H') qs (mkP wk lo hi (spl 44 l))->Q (.ref p) H'
noncomputable def aqA(K:FG)(aD aF aG aI aE aB aH aJ:Addr):Sp:=fun vs H Q _=>∃l:List Nat,vs=[.str (Tx l)]/\ItemsOk false 1 31 l/\(l=[42]->∀H',Same H H'->Q .non H')/\(l≠[42]->∀(m:Addr) (qs:List Addr) (H':Hp),H m=none->Same H H'->H' m=some (.lst (qs.map V.ref))->Ft (MkAt (⟨aD,aF,aG,aI,aE,aB,aH,aJ⟩:Cs) H') qs (amF false 1 31 l)->Q (.ref m) H')
noncomputable def ah4(K:FG)(aD aF aG aI aE aB aH aJ:Addr):Sp:=fun vs H Q _=>∃l:List Nat,vs=[.str (Tx l)]/\ItemsOk true 0 7 l/\(l=[42]->∀H',Same H H'->Q .non H')/\(l≠[42]->∀(m:Addr) (qs:List Addr) (H':Hp),H m=none->Same H H'->H' m=some (.lst (qs.map V.ref))->Ft (MkAt (⟨aD,aF,aG,aI,aE,aB,aH,aJ⟩:Cs) H') qs (amF true 0 7 l)->Q (.ref m) H')
noncomputable def ar9(K:FG):Sp:=fun vs H Q _=>∃h m:Int,vs=[.int h,.int m]/\(0<=h/\h<2^24)/\(0<=m/\m<2^60)/\∀(t:Int) (H':Hp),abK t->Same H H'->Q (.int t) H'
noncomputable def atC(K:FG)(aD aF aG aI aE aB aH aJ:Addr):Sp:=fun vs H Q _=>∃(dv wv:V) (kd kw:Option (List Mk)) (l f:Int),vs=[dv,wv,.int l,.int f]/\DV (⟨aD,aF,aG,aI,aE,aB,aH,aJ⟩:Cs) H dv kd/\DV (⟨aD,aF,aG,aI,aE,aB,aH,aJ⟩:Cs) H wv kw/\Lf l f/\∀H',Same H H'->Q (.int (aoC kd kw l f)) H'
noncomputable def aj9(K:FG)(C:Addr):Sp:=fun vs H Q _=>∃(p dx fa:Addr) (m0 m1 m3:Int) (dv wv:V),vs=[.ref p,.ref fa]/\H p=some (.ins C dx [])/\H fa=some (.lst [.int m0,.int m1,dv,.int m3,wv])/\(0<=m0/\m0<2^60)/\(0<=m1/\m1<2^24)/\∀(tm:Int) (H':Hp),abK tm->H' p=some (.ins C dx (ab7 m0 m1 dv m3 wv tm))->(∀b o,H b=some o->b≠p->H' b=some o)->Q .non H'
noncomputable def al0(K:FG)(C:Addr)(aD aF aG aI aE aB aH aJ:Addr):Sp:=fun vs H Q _=>∃(p dx:Addr) (m0 m1 m3 tm k:Int) (dv wv:V) (kd kw:Option (List Mk)),vs=[.ref p,.int k]/\H p=some (.ins C dx (ab7 m0 m1 dv m3 wv tm))/\(0<=k/\k<=90)/\0<=m3/\DV (⟨aD,aF,aG,aI,aE,aB,aH,aJ⟩:Cs) H dv kd/\DV (⟨aD,aF,aG,aI,aE,aB,aH,aJ⟩:Cs) H wv kw/\∀H',Same H H'->Q (.int (if tb m3 (mnA k).toNat=true then aoC kd kw (lnA k) (k%7) else 0)) H'
noncomputable def aoU(K:FG)(aD aF aG aI aE aB aH aJ:Addr):Sp:=fun vs H Q _=>∃(t:List Nat) (pl:Int),vs=[.str (Tx t),.int pl]/\((pl=2/\∃ko,DT false t ko/\∀(v:V) (H':Hp),Same H H'->DV (⟨aD,aF,aG,aI,aE,aB,aH,aJ⟩:Cs) H' v (gO false ko)->(∀p,v=.ref p->H p=none)->Q v H')∨(pl=4/\∃ko,DT true t ko/\∀(v:V) (H':Hp),Same H H'->DV (⟨aD,aF,aG,aI,aE,aB,aH,aJ⟩:Cs) H' v (gO true ko)->(∀p,v=.ref p->H p=none)->Q v H')∨(∃lo hi m:Int,(pl=0/\lo=0/\hi=59∨pl=1/\lo=0/\hi=23∨pl=3/\lo=1/\hi=12)/\FT lo hi t m/\∀H',Same H H'->Q (.int m) H'))
noncomputable def at8(K:FG)(aD aF aG aI aE aB aH aJ:Addr):Sp:=fun vs H Q _=>∃(t:List Nat) (pl:Int),vs=[.str (Tx t),.int pl]/\((pl=2/\∃ko,DT false t ko/\∀(v:V) (H':Hp),Same H H'->DV (⟨aD,aF,aG,aI,aE,aB,aH,aJ⟩:Cs) H' v (gO false ko)->(∀p,v=.ref p->H p=none)->Q v H')∨(pl=4/\∃ko,DT true t ko/\∀(v:V) (H':Hp),Same H H'->DV (⟨aD,aF,aG,aI,aE,aB,aH,aJ⟩:Cs) H' v (gO true ko)->(∀p,v=.ref p->H p=none)->Q v H')∨(∃lo hi m:Int,(pl=0/\lo=0/\hi=59∨pl=1/\lo=0/\hi=23∨pl=3/\lo=1/\hi=12)/\FT lo hi t m/\∀H',Same H H'->Q (.int m) H'))
noncomputable def arV(K:FG)(aD aF aG aI aE aB aH aJ aA:Addr):Sp:=fun vs H Q _=>∃(w0 w1 w2 w3 w4:List Nat) (m0 m1 m3:Int) (kd kw:Option (List Mk)),vs=[.str (Tx (aa1 32 [w0,w1,w2,w3,w4]))]/\FT 0 59 w0 m0/\FT 0 23 w1 m1/\FT 1 12 w3 m3/\DT false w2 kd/\DT true w4 kw/\(m0<2^60/\m1<2^24)/\∀(x dx:Addr) (dv wv:V) (tm:Int) (H':Hp),abK tm->Same H H'->H' x=some (.ins aA dx (ab7 m0 m1 dv m3 wv tm))->DV (⟨aD,aF,aG,aI,aE,aB,aH,aJ⟩:Cs) H' dv (gO false kd)->DV (⟨aD,aF,aG,aI,aE,aB,aH,aJ⟩:Cs) H' wv (gO true kw)->(H x=none/\(∀p,dv=.ref p->H p=none)/\∀p,wv=.ref p->H p=none)->Q (.ref x) H'
noncomputable def aq9(K:FG)(aL aQ aM aO aK aP:Addr):Sp:=fun vs H Q _=>tyT K aL aQ aM aO aK aP 6 vs H Q E0
noncomputable def aqL(K:FG)(aL aQ aM aO aK aP:Addr):Sp:=fun vs H Q _=>tyD K aL aQ aM aO aK aP 6 vs H Q E0
noncomputable def as7(K:FG)(aR aL aQ aM aO aK aP:Addr):Sp:=fun vs H Q E=>aNZ K aR aL aQ aM aO aK aP vs H Q E
noncomputable def akG(K:FG)(aR aL aQ aM aO aK aP:Addr):Sp:=fun vs H Q E=>aIZ K aR aL aQ aM aO aK aP vs H Q E
noncomputable def alN(K:FG)(C:Addr)(aR aA:Addr):Sp:=fun vs H Q E=>aH0 K C aR aA vs H Q E
noncomputable def agM(K:FG)(C:Addr)(aR aL aQ aM aO aK aP:Addr):Sp:=fun vs H Q E=>asT K C aR aL aQ aM aO aK aP vs H Q E
noncomputable def aj1(K:FG)(C:Addr)(aR aL aQ aM aO aK aP:Addr):Sp:=fun vs H Q E=>asT K C aR aL aQ aM aO aK aP vs H Q E
noncomputable def ahS(K:FG)(C:Addr)(aR aL aQ aM aO aK aP:Addr):Sp:=fun vs H Q E=>aBR K C aR aL aQ aM aO aK aP vs H Q E
noncomputable def agH(K:FG)(C:Addr)(aR aL aQ aM aO aK aP:Addr):Sp:=fun vs H Q E=>aAK K C aR aL aQ aM aO aK aP vs H Q E
noncomputable def apV(K:FG)(C:Addr):Sp:=fun vs H Q _=>∃(p dx:Addr) (m0 m1 m3 tm:Int) (dv wv:V),vs=[.ref p]/\H p=some (.ins C dx (ab7 m0 m1 dv m3 wv tm))/\Q (.int tm) H
noncomputable def al8(K:FG)(C:Addr)(aD aF aG aI aE aB aH aJ:Addr):Sp:=fun vs H Q _=>∃(p dx:Addr) (m0 m1 m3 tm k:Int) (dv wv:V) (kd kw:Option (List Mk)),vs=[.ref p,.int k]/\H p=some (.ins C dx (ab7 m0 m1 dv m3 wv tm))/\(0<=k/\k<=90)/\0<=m3/\DV (⟨aD,aF,aG,aI,aE,aB,aH,aJ⟩:Cs) H dv kd/\DV (⟨aD,aF,aG,aI,aE,aB,aH,aJ⟩:Cs) H wv kw/\∀D H',Same H H'->H' D=some (.lst ((aa2 (acO tm m3 kd kw) k).map V.int))->Q (.ref D) H'
noncomputable def ah3(K:FG):Sp:=fun vs H Q _=>∃i k:Int,vs=[.int i,.int k]/\(0<=k/\k<=90)/\∀D H',Same H H'->H' D=some (.lst ((aa2 (fun _ _=>i) k).map V.int))->Q (.ref D) H'
noncomputable def aqI(K:FG):Sp:=fun vs H Q _=>vs=[]/\Q (.int allT) H
noncomputable def akE(K:FG):Sp:=fun vs H Q _=>∃(a:Addr) (k:Int),vs=[.ref a,.int k]/\(∃ns:List Int,SqL K H a (ns.map V.int))/\(0<=k/\k<1000)/\∀c:Int,Q (.int c) H
noncomputable def ap0(K:FG):Sp:=fun vs H Q _=>∃n:Int,vs=[.int n]/\∀r:Int,0<=r->r<2147483629->Q (.int r) H
noncomputable def alL(K:FG):Sp:=fun vs H Q _=>∃(c:Int) (a:Addr) (b:Bool) (ss:List Int),vs=[.int c,.ref a,.bl b]/\SqL K H a (ss.map V.int)/\(∀z∈ss,0<z/\z<1073741824)/\ss.length<=63/\∀(ds:List Int) (p:Addr) (H':Hp),Same H H'->H' p=some (.lst (ds.map V.int))->Digs ds ss->Q (.ref p) H'
noncomputable def anI(K:FG):Sp:=fun vs H Q _=>∃(p:Addr) (d0 d1 d2 d3 lo hi:Int),vs=[.ref p,.int lo,.int hi]/\H p=some (.lst [.int d0,.int d1,.int d2,.int d3])/\(0<=d0/\d0<7)/\(0<=d3/\d3<9)/\(0<=lo/\lo<=hi/\hi<=59)/\∀(t:List Nat) (m:Int) (H':Hp),Same H H'->FT lo hi t m->m<2^(hi.toNat+1)->Q (.str (Tx t)) H'
noncomputable def ar1(K:FG)(aD aF aG aI aE aB aH aJ aA:Addr):Sp:=fun vs H Q _=>∃(c:Int) (bm:Bool),vs=[.int c,.bl bm]/\∀(x dx:Addr) (m0 m1 m3 tm:Int) (dv wv:V) (kd kw:Option (List Mk)) (H':Hp),Same H H'->H' x=some (.ins aA dx (ab7 m0 m1 dv m3 wv tm))->(0<=m3/\abK tm)->DV (⟨aD,aF,aG,aI,aE,aB,aH,aJ⟩:Cs) H' dv kd->DV (⟨aD,aF,aG,aI,aE,aB,aH,aJ⟩:Cs) H' wv kw->(H x=none/\(∀p,dv=.ref p->H p=none)/\∀p,wv=.ref p->H p=none)->Q (.ref x) H'
noncomputable def al9(K:FG):Sp:=fun vs H Q _=>∃(p:Addr) (vs':List V) (sts:List Tri) (a b tm:Int),vs=[.ref p,.int a,.int b,.int tm]/\H p=some (.lst vs')/\Paired (TpT H) vs' sts/\vs'.length<=40/\∀H' us,H' p=some (.lst us)->Paired (TpT H') us (aoY sts a b tm)->(∀q o,q≠p->H q=some o->H' q=some o)->Q .non H'
noncomputable def asZ(K:FG):Sp:=fun vs H Q _=>∃(a:Addr) (n:Nat) (f:Nat->Int),vs=[.ref a]/\SqL K H a (((List.range n).map f).map V.int)/\n<=31/\∀p H',Same H H'->H p=none->arU H' p (pgN f n)->Q (.ref p) H'
noncomputable def arI(K:FG)(aD aF aG aI aE aB aH aJ aA aL aQ aM aO aK aP:Addr):Sp:=fun vs H Q _=>∃(b:V) (f:DF),vs=[b]/\acN (⟨aD,aF,aG,aI,aE,aB,aH,aJ⟩:Cs) aA aL aQ aM aO aK aP 5 H b f/\∀(D:Addr) (ps:List Addr) (H':Hp),Same H H'->H D=none->H' D=some (.lst (ps.map V.ref))->ps.length=91->ps.Nodup->(∀p∈ps,H p=none/\p≠D)->(∀(j:Nat) (p:Addr),ps[j]? =some p->arU H' p (pgN (f (j:Int)) (lnA (j:Int)).toNat))->Q (.ref D) H'
noncomputable def alD(K:FG):Sp:=fun vs H Q _=>∃(wd:List Nat) (a b:Int),vs=[.str (Tx wd),.int a,.int b]/\(wd=[106,111,105,110]∨wd=[109,101,101,116]∨wd=[108,101,115,115])/\abK a/\abK b/\Q (.int (opW wd a b)) H
noncomputable def anJ(K:FG)(aD aF aG aI aE aB aH aJ aA aL aQ aM aO aK aP:Addr):Sp:=fun vs H Q _=>∃(va vb vc:V) (f g h:DF),vs=[va,vb,vc]/\Q3 (fun p=>H p≠none) (⟨aD,aF,aG,aI,aE,aB,aH,aJ⟩:Cs) aA aL aQ aM aO aK aP va vb vc f g h H/\Wt f/\Wt g/\Wt h/\∀(l:Addr) (ps:List Addr) (H':Hp),Same H H'->H' l=some (.lst (ps.map V.ref))->ps.length=16->(∀p∈ps,PrA (fun p=>H p≠none) (⟨aD,aF,aG,aI,aE,aB,aH,aJ⟩:Cs) aA aL aQ aM aO aK aP H' p)->Q (.ref l) H'
noncomputable def apO(K:FG)(aD aF aG aI aE aB aH aJ aA:Addr):Sp:=fun vs H Q _=>∃(c:Int) (bm:Bool),vs=[.int c,.bl bm]/\∀(x dx:Addr) (m0 m1 m3 tm:Int) (dv wv:V) (kd kw:Option (List Mk)) (H':Hp),Same H H'->H' x=some (.ins aA dx (ab7 m0 m1 dv m3 wv tm))->(0<=m3/\abK tm)->DV (⟨aD,aF,aG,aI,aE,aB,aH,aJ⟩:Cs) H' dv kd->DV (⟨aD,aF,aG,aI,aE,aB,aH,aJ⟩:Cs) H' wv kw->(H x=none/\(∀p,dv=.ref p->H p=none)/\∀p,wv=.ref p->H p=none)->Q (.ref x) H'
noncomputable def al6(K:FG)(aD aF aG aI aE aB aH aJ aA:Addr):Sp:=fun vs H Q _=>∃(A B:Addr->Prop) (u v:V) (f g:DF),vs=[u,v]/\TrP A (⟨aD,aF,aG,aI,aE,aB,aH,aJ⟩:Cs) aA 3 H u f/\TrP B (⟨aD,aF,aG,aI,aE,aB,aH,aJ⟩:Cs) aA 3 H v g/\∀H',Same H H'->Q (.bl (ulB f g)) H'
noncomputable def ap2(K:FG):Sp:=fun vs H Q _=>∃(a:Addr) (ns:List Int),vs=[.ref a]/\SqL K H a (ns.map V.int)/\ns.length<=63/\∀H',Q (.bl true) H'
theorem md_Last___init__{K:FG}{C f T:Addr}{od an tod:Option Addr}{sl tsl:Array (Option Value)}{oc kV dc pm cd ct:Value}{tn:Nat}{t0:Tok}(a:PySem.W.findIn K (.ref C) "__init__"=some (some (.ref f)))(i:PySem.W.isFn K (.ref f)=true)(l:K.lookup f=some ⟨oc,od,.func (PySem.W.fnOf "__init__" "Last.__init__" (abR abA) (aa4 abA) (aaC abA) (.ref T) kV dc pm an cd ct),sl⟩)(c:PySem.W.codeIn K cd "Last.__init__"=true)(k:PySem.W.keepIn K (.ref f)=true)(lt:K.lookup T=some ⟨.type "tuple",tod,.seq #[.int 0 t0] tn,tsl⟩):FnMD K C "__init__" "Last.__init__" abA ["self","back"] [.int 0]:=
 az3 (ds:=[.int 0 t0]) a i l c k (fun s us X hl=>match us,(show us.length=2 by simpa using hl) with | [_,_],_=>PySem.W.binds_K X rfl lt rfl rfl rfl) (.cons ⟨_,rfl⟩ .nil) (fun s us X hl=>match us,(show us.length=1 by simpa using hl) with | [_],_=>PySem.W.binds_K X rfl lt rfl rfl rfl)
theorem q_MONTH_LASTS{K:FG}{a:Addr}{od:Option Addr}{sl:Array (Option Value)}{n:Nat}{t0 t1 t2 t3 t4 t5 t6 t7 t8 t9 t10 t11:Tok}(l:K.lookup a=some ⟨.type "tuple",od,.seq #[.int 31 t0,.int 28 t1,.int 31 t2,.int 30 t3,.int 31 t4,.int 30 t5,.int 31 t6,.int 31 t7,.int 30 t8,.int 31 t9,.int 30 t10,.int 31 t11] n,sl⟩):∀H,SqT K H a (([31,28,31,30,31,30,31,31,30,31,30,31]:List Int).map V.int):=fun H=>.inr ⟨_,_,_,l,rfl,rfl,(zL 12),(.cons ⟨_,rfl⟩ (.cons ⟨_,rfl⟩ (.cons ⟨_,rfl⟩ (.cons ⟨_,rfl⟩ (.cons ⟨_,rfl⟩ (.cons ⟨_,rfl⟩ (.cons ⟨_,rfl⟩ (.cons ⟨_,rfl⟩ (.cons ⟨_,rfl⟩ (.cons ⟨_,rfl⟩ (.cons ⟨_,rfl⟩ (.cons ⟨_,rfl⟩ .nil))))))))))))⟩
theorem q_BOUNDS{K:FG}{a b0 b1 b3:Addr}{ep:Nat}{t0 t1 t3:Tok}(l:K.lookup a=some ⟨.type "dict",none,.dict #[⟨0,.int 0 t0,.ref b0⟩,⟨1,.int 1 t1,.ref b1⟩,⟨3,.int 3 t3,.ref b3⟩] ep,#[]⟩):KD K a [(0,.ref b0),(1,.ref b1),(3,.ref b3)]:=by
 refine⟨_,ep,[(.inl 0,.ref b0),(.inl 1,.ref b1),(.inl 3,.ref b3)],l,(.cons ⟨rfl,rfl⟩ (.cons ⟨rfl,rfl⟩ (.cons ⟨rfl,rfl⟩ .nil))),(show ([.inl 0,.inl 1,.inl 3]:List Key).Nodup by decide),fun P w=>⟨?_,(.cons rfl rfl (.cons rfl rfl (.cons rfl rfl .nil)))⟩⟩
 intro e he
 simp only[Array.mem_toArray,aX,bV,or_false] at he
 rcases he with rfl | rfl | rfl
 ·exact⟨.inl 0,rfl,rfl⟩
 ·exact⟨.inl 1,rfl,rfl⟩
 ·exact⟨.inl 3,rfl,rfl⟩
theorem q_BOUNDS_0{K:FG}{a:Addr}{od:Option Addr}{sl:Array (Option Value)}{n:Nat}{t0 t1:Tok}(l:K.lookup a=some ⟨.type "tuple",od,.seq #[.int 0 t0,.int 59 t1] n,sl⟩):∀H,SqT K H a (([0,59]:List Int).map V.int):=fun H=>.inr ⟨_,_,_,l,rfl,rfl,(zL 2),(.cons ⟨_,rfl⟩ (.cons ⟨_,rfl⟩ .nil))⟩
theorem q_BOUNDS_1{K:FG}{a:Addr}{od:Option Addr}{sl:Array (Option Value)}{n:Nat}{t0 t1:Tok}(l:K.lookup a=some ⟨.type "tuple",od,.seq #[.int 0 t0,.int 23 t1] n,sl⟩):∀H,SqT K H a (([0,23]:List Int).map V.int):=fun H=>.inr ⟨_,_,_,l,rfl,rfl,(zL 2),(.cons ⟨_,rfl⟩ (.cons ⟨_,rfl⟩ .nil))⟩
theorem q_BOUNDS_3{K:FG}{a:Addr}{od:Option Addr}{sl:Array (Option Value)}{n:Nat}{t0 t1:Tok}(l:K.lookup a=some ⟨.type "tuple",od,.seq #[.int 1 t0,.int 12 t1] n,sl⟩):∀H,SqT K H a (([1,12]:List Int).map V.int):=fun H=>.inr ⟨_,_,_,l,rfl,rfl,(zL 2),(.cons ⟨_,rfl⟩ (.cons ⟨_,rfl⟩ .nil))⟩
theorem mg_tx{K:FG}{h:Heap}{mg:Str->Option Value}{x n:Str}{l:List Nat}{t:Tok}(X:K.In h)(G:h.Ns mainGlobals mg)(e:x=Tx l)(a:PySem.W.nsIn K mainGlobals n=some (some (.str x t))):mg n=some (.str (Tx l) t):=e▸PySem.W.mg_of X G a
theorem at7:FnScope ["year"] ["year"] (aaC an4):=fsc
theorem as3:FnScope ["year","month"] ["year","month"] (aaC anT):=fsc
theorem sc_month_at:FnScope ["kind","place","first"] ["kind"] (aaC ak0):=fsc
theorem amO:FnScope ["text"] ["text"] (aaC afX):=fsc
theorem am9:FnScope ["text"] ["text"] (aaC ag1):=fsc
theorem aDH:FnScope ["mask","number"] ["mask","number"] (aaC aB6):=fsc
theorem sc_mask_of:FnScope ["numbers","mask","number"] ["numbers"] (aaC anZ):=fsc
theorem am3:FnScope ["mask"] ["mask"] (aaC ahP):=fsc
theorem arC:FnScope ["first","last","stride"] ["first","last","stride"] (aaC akZ):=fsc
theorem sc_read_number:FnScope ["text","low","high","number"] ["text","low","high"] (aaC af5):=fsc
theorem sc_read_run:FnScope ["text","low","high","ends"] ["text","low","high"] (aaC al7):=fsc
theorem sc_read_strided:FnScope ["run_text","stride_text","low","high","run","stride","last"] ["run_text","stride_text","low","high"] (aaC aeU):=fsc
theorem sc_read_item:FnScope ["item","low","high","parts","run"] ["item","low","high"] (aaC ai6):=fsc
theorem sc_read_field:FnScope ["text","low","high","items","mask","place","item","told"] ["text","low","high"] (aaC ag5):=fsc
theorem anE:FnScope ["day","first"] ["day","first"] (aaC ahN):=fsc
theorem asL:FnScope ["last"] ["last"] (aaC alI):=fsc
theorem sc_nearest_work:FnScope ["day","last","first","of_week"] ["day","last","first"] (aaC ae0):=fsc
theorem apE:FnScope ["weekday","first"] ["weekday","first"] (aaC ajB):=fsc
theorem apG:FnScope ["self","last","first"] ["self","last","first"] (aaC ai5):=fsc
theorem afS:FnScope ["self","mask"] ["self","mask"] (aaC acX):=fsc
theorem aj3:FnScope ["self","last","first"] ["self","last","first"] (aaC afI):=fsc
theorem aiJ:FnScope ["self","back"] ["self","back"] (aaC abA):=fsc
theorem aqB:FnScope ["self","last","first"] ["self","last","first"] (aaC ajG):=fsc
theorem aiR:FnScope ["self","day"] ["self","day"] (aaC ad6):=fsc
theorem ap4:FnScope ["self","last","first"] ["self","last","first"] (aaC ajL):=fsc
theorem aiS:FnScope ["self","last","first"] ["self","last","first"] (aaC ad4):=fsc
theorem aeH:FnScope ["self","mask"] ["self","mask"] (aaC acQ):=fsc
theorem sc_Weekdays_days:FnScope ["self","last","first","weeks","week"] ["self","last","first"] (aaC adZ):=fsc
theorem akH:FnScope ["self","weekday","many"] ["self","weekday","many"] (aaC afC):=fsc
theorem sc_Nth_days:FnScope ["self","last","first","day"] ["self","last","first"] (aaC alP):=fsc
theorem afO:FnScope ["self","weekday"] ["self","weekday"] (aaC acY):=fsc
theorem aj0:FnScope ["self","last","first"] ["self","last","first"] (aaC ae2):=fsc
theorem sc_any_days:FnScope ["marks","last","first","mask","mark"] ["marks","last","first"] (aaC amJ):=fsc
theorem sc_read_day_mark:FnScope ["item","back","day"] ["item"] (aaC ad2):=fsc
theorem sc_read_weekday:FnScope ["text","number"] ["text"] (aaC afF):=fsc
theorem sc_read_weekday_mark:FnScope ["item","weekday","parts","many"] ["item"] (aaC acR):=fsc
theorem sc_read_items:FnScope ["text","low","high","read_mark","items","mask","marks","place","item","plain","mark"] ["text","low","high","read_mark"] (aaC ahA):=fsc
theorem sc_read_days:FnScope ["text","read"] ["text"] (aaC ajD):=fsc
theorem sc_read_weekdays:FnScope ["text","read","mask"] ["text"] (aaC ad1):=fsc
theorem sc_times_of:FnScope ["hours","minutes","times","hour"] ["hours","minutes"] (aaC ak3):=fsc
theorem sc_days_by:FnScope ["days","weekdays","last","first","mask","marks"] ["days","weekdays","last","first"] (aaC anV):=fsc
theorem ajT:FnScope ["self","fields"] ["self","fields"] (aaC aeW):=fsc
theorem sc_Row_days_in:FnScope ["self","kind","month"] ["self","kind"] (aaC af4):=fsc
theorem sc_read_word:FnScope ["word","place","bounds"] ["word","place"] (aaC ajM):=fsc
theorem atL:FnScope ["word","place"] ["word","place"] (aaC an0):=fsc
theorem sc_read_row:FnScope ["text","words"] ["text"] (aaC ak7):=fsc
theorem am4:FnScope ["self"] ["self"] (aaC ahI):=fsc
theorem aqS:FnScope ["self"] ["self"] (aaC ak6):=fsc
theorem ajQ:FnScope ["self"] ["self"] (aaC aeY):=fsc
theorem ao7:FnScope ["self"] ["self"] (aaC ajP):=fsc
theorem am1:FnScope ["self"] ["self"] (aaC ahL):=fsc
theorem ajR:FnScope ["self"] ["self"] (aaC aeT):=fsc
theorem am7:FnScope ["self"] ["self"] (aaC agZ):=fsc
theorem ar4:FnScope ["self"] ["self"] (aaC alC):=fsc
theorem ajU:FnScope ["self"] ["self"] (aaC ae7):=fsc
theorem apC:FnScope ["self"] ["self"] (aaC ai8):=fsc
theorem anC:FnScope ["self"] ["self"] (aaC ahJ):=fsc
theorem aj6:FnScope ["self"] ["self"] (aaC aeS):=fsc
theorem ajH:FnScope ["books"] ["books"] (aaC alE):=fsc
theorem ai7:FnScope ["books"] ["books"] (aaC amK):=fsc
theorem atH:FnScope ["books"] ["books"] (aaC anR):=fsc
theorem ajZ:FnScope ["books"] ["books"] (aaC ae6):=fsc
theorem amV:FnScope ["self","row"] ["self","row"] (aaC af1):=fsc
theorem agT:FnScope ["self","books"] ["self","books"] (aaC ac2):=fsc
theorem ajS:FnScope ["self","books"] ["self","books"] (aaC afE):=fsc
theorem ah7:FnScope ["self","one","other"] ["self","one","other"] (aaC ad0):=fsc
theorem agR:FnScope ["self","one"] ["self","one"] (aaC ac5):=fsc
theorem apK:FnScope ["self"] ["self"] (aaC ajJ):=fsc
theorem sc_Row_on_days:FnScope ["self","kind","days","last"] ["self","kind"] (aaC afW):=fsc
theorem ah5:FnScope ["times","kind"] ["times","kind"] (aaC ad3):=fsc
theorem ao1:FnScope [] [] (aaC ajN):=fsc
theorem aeC:FnScope ["self","kind"] ["self","kind"] (aaC aeX):=fsc
theorem af0:FnScope ["self","kind"] ["self","kind"] (aaC ahF):=fsc
theorem sc_Joined_on_days:FnScope ["self","kind","days","book"] ["self","kind"] (aaC adD):=fsc
theorem sc_Met_on_days:FnScope ["self","kind","days","book"] ["self","kind"] (aaC agA):=fsc
theorem ad7:FnScope ["self","kind"] ["self","kind"] (aaC aeR):=fsc
theorem ac3:FnScope ["self","kind"] ["self","kind"] (aaC adH):=fsc
theorem akA:FnScope ["_law_script","_law_k"] ["_law_script","_law_k"] (aaC aeM):=fsc
theorem sc__law_stir:FnScope ["_law_number","_law_first","_law_second"] ["_law_number"] (aaC ajC):=fsc
theorem sc__law_digits:FnScope ["_law_cell","_law_sizes","_law_mixed","_law_found","_law_size"] ["_law_cell","_law_sizes","_law_mixed"] (aaC agF):=fsc
theorem sc__law_field:FnScope ["_law_parts","_law_low","_law_high","_law_one","_law_later","_law_by","_law_some"] ["_law_parts","_law_low","_law_high"] (aaC ag0):=fsc
theorem sc__law_row:FnScope ["_law_cell","_law_mixed","_law_parts","_law_one","_law_day","_law_days","_law_weekdays","_law_words"] ["_law_cell","_law_mixed"] (aaC ak9):=fsc
theorem sc__law_tree:FnScope ["_law_script","_law_n","_law_deep","_law_mixed","_law_parts","_law_row_here","_law_word","_law_many"] ["_law_script","_law_n","_law_deep","_law_mixed"] (aaC ai3):=fsc
theorem sc__law_make:FnScope ["_law_tree_here","_law_word","_law_parts","_law_made"] ["_law_tree_here"] (aaC ajO):=fsc
theorem alK:FnScope ["stretches","first","last","told"] ["stretches","first","last","told"] (aaC agE):=fsc
theorem sc_page_of:FnScope ["days","stretches","day","times"] ["days"] (aaC anP):=fsc
theorem aq8:FnScope ["book"] ["book"] (aaC amX):=fsc
theorem al5:FnScope ["_law_word","_law_one","_law_other"] ["_law_word","_law_one","_law_other"] (aaC agC):=fsc
theorem sc__law_masks:FnScope ["_law_tree_here","_law_kind","_law_word","_law_parts","_law_last","_law_days","_law_found","_law_part","_law_more"] ["_law_tree_here","_law_kind"] (aaC ag8):=fsc
theorem sc__law_pairs:FnScope ["_law_a","_law_b","_law_c","_law_some"] ["_law_a","_law_b","_law_c"] (aaC ag2):=fsc
theorem sc__law_rare:FnScope ["_law_cell","_law_mixed","_law_parts","_law_one","_law_some"] ["_law_cell","_law_mixed"] (aaC ai4):=fsc
theorem sc__law_unlike:FnScope ["_law_one","_law_other","_law_kind"] ["_law_one","_law_other"] (aaC agD):=fsc
theorem sc_law:FnScope ["_law_script","_law_mixed","_law_parts","_law_trees","_law_books","_law_pairs_here","_law_one","_law_other","_law_row_here","_law_rare_here","_law_tree_here","_law_book","_law_unlike_here"] ["_law_script"] (aaC aoD):=fsc
structure Fs(K:FG)(mg:Str->Option Value)(aJ aD aF aG aI aE aB aH aA aL aQ aM aO aK aP aT aS aR a_MONTH_LASTS a_BOUNDS a_BOUNDS_0 a_BOUNDS_1 a_BOUNDS_3:Addr)(t_LONG_PLACE t_LONG_LAST t_SHORT_YEAR t_FIGURES t_MOST_STRIDE t_MOST_SIGNS t_MOST_ITEMS t_SATURDAY t_SUNDAY t_MOST_BACK t_MOST_DAY t_SUNDAY_TOO t_MOST_NTH t_MOST_MARKS t_ALL_WEEKDAYS t_HOUR_MINUTES t_MINUTE t_HOUR t_DAY t_MONTH t_WEEKDAY t_MOST_ROW_SIGNS t_NO_PLACE t_MOST_TALLY t_MOST_DEPTH t_MOST_BOOKS t_DAY_MINUTES t_KINDS:Tok):Prop where
 fd:Cd K mg "Mark" aJ
 fq:PySem.W.findIn K (.ref aJ) "__init__"=some (some (.builtin "object.__init__"))
 az:Cd K mg "Numbers" aD
 bg:PySem.W.findIn K (.ref aD) "mask"=some none
 a0:Cd K mg "Last" aF
 a4:PySem.W.findIn K (.ref aF) "back"=some none
 a8:Cd K mg "Near" aG
 a9:PySem.W.findIn K (.ref aG) "day"=some none
 bs:Cd K mg "LastWork" aI
 ea:PySem.W.findIn K (.ref aI) "__init__"=some (some (.builtin "object.__init__"))
 au:Cd K mg "Weekdays" aE
 ba:PySem.W.findIn K (.ref aE) "mask"=some none
 bb:Cd K mg "Nth" aB
 bj:PySem.W.findIn K (.ref aB) "weekday"=some none
 bt:PySem.W.findIn K (.ref aB) "many"=some none
 a1:Cd K mg "LastOne" aH
 a2:PySem.W.findIn K (.ref aH) "weekday"=some none
 ae:Cd K mg "Row" aA
 a3:PySem.W.findIn K (.ref aA) "minute_mask"=some none
 bc:PySem.W.findIn K (.ref aA) "hour_mask"=some none
 bd:PySem.W.findIn K (.ref aA) "day_marks"=some none
 a5:PySem.W.findIn K (.ref aA) "month_mask"=some none
 ax:PySem.W.findIn K (.ref aA) "weekday_marks"=some none
 ap:PySem.W.findIn K (.ref aA) "time_mask"=some none
 ag:Cd K mg "Book" aL
 be:PySem.W.findIn K (.ref aL) "__init__"=some (some (.builtin "object.__init__"))
 av:Cd K mg "Of" aQ
 b8:PySem.W.findIn K (.ref aQ) "row"=some none
 aa:Cd K mg "Joined" aM
 ak:PySem.W.findIn K (.ref aM) "books"=some none
 ad:Cd K mg "Met" aO
 ar:PySem.W.findIn K (.ref aO) "books"=some none
 ac:Cd K mg "Less" aK
 aw:PySem.W.findIn K (.ref aK) "one"=some none
 al:PySem.W.findIn K (.ref aK) "other"=some none
 ab:Cd K mg "Turned" aP
 am:PySem.W.findIn K (.ref aP) "one"=some none
 ay:mg "read_weekday_mark"=some (.ref aT)
 bf:mg "read_day_mark"=some (.ref aS)
 fr:mg "NoBook"=some (.ref aR)
 aq:Xc K mg "NoBook" aR
 e6:IsC K aL
 fj:IsC K aQ
 es:IsC K aM
 fe:IsC K aO
 e7:IsC K aK
 et:IsC K aP
 e8:PySem.W.kitOne K (.ref aL) (.ref aL)=some true
 fk:PySem.W.kitOne K (.ref aQ) (.ref aL)=some true
 eu:PySem.W.kitOne K (.ref aM) (.ref aL)=some true
 ff:PySem.W.kitOne K (.ref aO) (.ref aL)=some true
 e9:PySem.W.kitOne K (.ref aK) (.ref aL)=some true
 ev:PySem.W.kitOne K (.ref aP) (.ref aL)=some true
 fg:IsC K aA
 fh:PySem.W.kitOne K (.ref aA) (.ref aA)=some true
 c0:mg "MONTH_LASTS"=some (.ref a_MONTH_LASTS)
 bk:∀H,SqT K H a_MONTH_LASTS (([31,28,31,30,31,30,31,31,30,31,30,31]:List Int).map V.int)
 dc:mg "LONG_PLACE"=some (.int 12 t_LONG_PLACE)
 dv:mg "LONG_LAST"=some (.int 29 t_LONG_LAST)
 dd:mg "SHORT_YEAR"=some (.int 1 t_SHORT_YEAR)
 ew:mg "FIGURES"=some (.str (Tx [48,49,50,51,52,53,54,55,56,57]) t_FIGURES)
 c1:mg "MOST_STRIDE"=some (.int 99 t_MOST_STRIDE)
 bm:mg "MOST_SIGNS"=some (.int 300 t_MOST_SIGNS)
 an:mg "MOST_ITEMS"=some (.int 40 t_MOST_ITEMS)
 eb:mg "SATURDAY"=some (.int 6 t_SATURDAY)
 b9:mg "SUNDAY"=some (.int 0 t_SUNDAY)
 dw:mg "MOST_BACK"=some (.int 30 t_MOST_BACK)
 bu:mg "MOST_DAY"=some (.int 31 t_MOST_DAY)
 ao:mg "SUNDAY_TOO"=some (.int 7 t_SUNDAY_TOO)
 ec:mg "MOST_NTH"=some (.int 5 t_MOST_NTH)
 de:mg "MOST_MARKS"=some (.int 20 t_MOST_MARKS)
 ck:mg "ALL_WEEKDAYS"=some (.int 127 t_ALL_WEEKDAYS)
 cl:mg "HOUR_MINUTES"=some (.int 60 t_HOUR_MINUTES)
 e4:mg "MINUTE"=some (.int 0 t_MINUTE)
 fi:mg "HOUR"=some (.int 1 t_HOUR)
 ed:mg "DAY"=some (.int 2 t_DAY)
 fa:mg "MONTH"=some (.int 3 t_MONTH)
 b3:mg "WEEKDAY"=some (.int 4 t_WEEKDAY)
 e5:mg "BOUNDS"=some (.ref a_BOUNDS)
 bn:KD K a_BOUNDS [(0,.ref a_BOUNDS_0),(1,.ref a_BOUNDS_1),(3,.ref a_BOUNDS_3)]
 bv:∀H,SqT K H a_BOUNDS_0 (([0,59]:List Int).map V.int)
 bw:∀H,SqT K H a_BOUNDS_1 (([0,23]:List Int).map V.int)
 bx:∀H,SqT K H a_BOUNDS_3 (([1,12]:List Int).map V.int)
 ca:mg "MOST_ROW_SIGNS"=some (.int 1600 t_MOST_ROW_SIGNS)
 ee:mg "NO_PLACE"=some (.int 5 t_NO_PLACE)
 df:mg "MOST_TALLY"=some (.int 24 t_MOST_TALLY)
 dg:mg "MOST_DEPTH"=some (.int 5 t_MOST_DEPTH)
 dh:mg "MOST_BOOKS"=some (.int 8 t_MOST_BOOKS)
 c2:mg "DAY_MINUTES"=some (.int 1440 t_DAY_MINUTES)
 fb:mg "KINDS"=some (.int 91 t_KINDS)
 ef:mg "all"=none
 ai:mg "range"=none
 di:mg "list"=none
 fl:mg "int"=none
 aj:mg "len"=none
 af:mg "str"=none
 ah:mg "isinstance"=none
 as:mg "enumerate"=none
 fm:mg "sum"=none
 fn:mg "max"=none
 fc:mg "tuple"=none
 cb:mg "zip"=none
 fo:mg "abs"=none
 ex:Fn K mg "is_long" an4 ["year"]
 ey:Fn K mg "last_of" anT ["year","month"]
 eg:Fn K mg "month_at" ak0 ["kind"]
 c3:Fn K mg "all_figures" afX ["text"]
 dj:Fn K mg "is_written" ag1 ["text"]
 fp:Fn K mg "has" aB6 ["mask","number"]
 ez:Fn K mg "mask_of" anZ ["numbers"]
 dk:Fn K mg "numbers_in" ahP ["mask"]
 eh:Fn K mg "run_mask" akZ ["first","last","stride"]
 c4:Fn K mg "read_number" af5 ["text","low","high"]
 ei:Fn K mg "read_run" al7 ["text","low","high"]
 cm:Fn K mg "read_strided" aeU ["run_text","stride_text","low","high"]
 dx:Fn K mg "read_item" ai6 ["item","low","high"]
 dl:Fn K mg "read_field" ag5 ["text","low","high"]
 dm:Fn K mg "weekday_at" ahN ["day","first"]
 ej:Fn K mg "all_days" alI ["last"]
 cn:Fn K mg "nearest_work" ae0 ["day","last","first"]
 dy:Fn K mg "first_one" ajB ["weekday","first"]
 dz:FnM K aJ "days" "Mark.days" ai5 ["self","last","first"]
 b4:FnM K aD "__init__" "Numbers.__init__" acX ["self","mask"]
 co:FnM K aD "days" "Numbers.days" afI ["self","last","first"]
 cc:FnMD K aF "__init__" "Last.__init__" abA ["self","back"] [.int 0]
 d0:FnM K aF "days" "Last.days" ajG ["self","last","first"]
 cd:FnM K aG "__init__" "Near.__init__" ad6 ["self","day"]
 d1:FnM K aG "days" "Near.days" ajL ["self","last","first"]
 ce:FnM K aI "days" "LastWork.days" ad4 ["self","last","first"]
 b1:FnM K aE "__init__" "Weekdays.__init__" acQ ["self","mask"]
 cf:FnM K aE "days" "Weekdays.days" adZ ["self","last","first"]
 cp:FnM K aB "__init__" "Nth.__init__" afC ["self","weekday","many"]
 ek:FnM K aB "days" "Nth.days" alP ["self","last","first"]
 b5:FnM K aH "__init__" "LastOne.__init__" acY ["self","weekday"]
 cq:FnM K aH "days" "LastOne.days" ae2 ["self","last","first"]
 el:Fn K mg "any_days" amJ ["marks","last","first"]
 cg:Fn K mg "read_day_mark" ad2 ["item"]
 cr:Fn K mg "read_weekday" afF ["text"]
 b2:Fn K mg "read_weekday_mark" acR ["item"]
 dn:Fn K mg "read_items" ahA ["text","low","high","read_mark"]
 d2:Fn K mg "read_days" ajD ["text"]
 ch:Fn K mg "read_weekdays" ad1 ["text"]
 em:Fn K mg "times_of" ak3 ["hours","minutes"]
 e0:Fn K mg "days_by" anV ["days","weekdays","last","first"]
 cs:FnM K aA "__init__" "Row.__init__" aeW ["self","fields"]
 c5:FnM K aA "days_in" "Row.days_in" af4 ["self","kind"]
 d3:Fn K mg "read_word" ajM ["word","place"]
 e1:Fn K mg "read_at" an0 ["word","place"]
 en:Fn K mg "read_row" ak7 ["text"]
 dp:FnM K aL "tally" "Book.tally" ahI ["self"]
 eo:FnM K aQ "tally" "Book.tally" ak6 ["self"]
 ct:FnM K aM "tally" "Joined.tally" aeY ["self"]
 d4:FnM K aO "tally" "Met.tally" ajP ["self"]
 dq:FnM K aK "tally" "Less.tally" ahL ["self"]
 cu:FnM K aP "tally" "Turned.tally" aeT ["self"]
 dr:FnM K aL "depth" "Book.depth" agZ ["self"]
 ep:FnM K aQ "depth" "Book.depth" alC ["self"]
 cv:FnM K aM "depth" "Joined.depth" ae7 ["self"]
 d5:FnM K aO "depth" "Met.depth" ai8 ["self"]
 ds:FnM K aK "depth" "Less.depth" ahJ ["self"]
 cw:FnM K aP "depth" "Turned.depth" aeS ["self"]
 bz:Fn K mg "tally_of" alE ["books"]
 b0:Fn K mg "depth_of" amK ["books"]
 e2:Fn K mg "checked" anR ["books"]
 cx:Fn K mg "checked_list" ae6 ["books"]
 c6:FnM K aQ "__init__" "Of.__init__" af1 ["self","row"]
 b6:FnM K aM "__init__" "Joined.__init__" ac2 ["self","books"]
 cy:FnM K aO "__init__" "Met.__init__" afE ["self","books"]
 ci:FnM K aK "__init__" "Less.__init__" ad0 ["self","one","other"]
 b7:FnM K aP "__init__" "Turned.__init__" ac5 ["self","one"]
 d6:FnM K aA "times" "Row.times" ajJ ["self"]
 c7:FnM K aA "on_days" "Row.on_days" afW ["self","kind"]
 cj:Fn K mg "same_each_day" ad3 ["times","kind"]
 d7:Fn K mg "all_times" ajN []
 bh:FnM K aL "on_days" "Book.on_days" aeX ["self","kind"]
 bo:FnM K aQ "on_days" "Of.on_days" ahF ["self","kind"]
 a6:FnM K aM "on_days" "Joined.on_days" adD ["self","kind"]
 bl:FnM K aO "on_days" "Met.on_days" agA ["self","kind"]
 bi:FnM K aK "on_days" "Less.on_days" aeR ["self","kind"]
 a7:FnM K aP "on_days" "Turned.on_days" adH ["self","kind"]
 cz:Fn K mg "_law_cell_at" aeM ["_law_script","_law_k"]
 d8:Fn K mg "_law_stir" ajC ["_law_number"]
 c8:Fn K mg "_law_digits" agF ["_law_cell","_law_sizes","_law_mixed"]
 dt:Fn K mg "_law_field" ag0 ["_law_parts","_law_low","_law_high"]
 eq:Fn K mg "_law_row" ak9 ["_law_cell","_law_mixed"]
 bq:Fn K mg "_law_tree" ai3 ["_law_script","_law_n","_law_deep","_law_mixed"]
 br:Fn K mg "_law_make" ajO ["_law_tree_here"]
 c9:Fn K mg "add_stretch" agE ["stretches","first","last","told"]
 e3:Fn K mg "page_of" anP ["days"]
 er:Fn K mg "sheet_of" amX ["book"]
 da:Fn K mg "_law_joined" agC ["_law_word","_law_one","_law_other"]
 bp:Fn K mg "_law_masks" ag8 ["_law_tree_here","_law_kind"]
 du:Fn K mg "_law_pairs" ag2 ["_law_a","_law_b","_law_c"]
 d9:Fn K mg "_law_rare" ai4 ["_law_cell","_law_mixed"]
 db:Fn K mg "_law_unlike" agD ["_law_one","_law_other"]
section
set_option maxHeartbeats 4000000
variable{P:Program}{w:World}{K:FG}{mg:Str->Option Value}{base:Heap}{aJ aD aF aG aI aE aB aH aA aL aQ aM aO aK aP aT aS aR a_MONTH_LASTS a_BOUNDS a_BOUNDS_0 a_BOUNDS_1 a_BOUNDS_3:Addr}{t_LONG_PLACE t_LONG_LAST t_SHORT_YEAR t_FIGURES t_MOST_STRIDE t_MOST_SIGNS t_MOST_ITEMS t_SATURDAY t_SUNDAY t_MOST_BACK t_MOST_DAY t_SUNDAY_TOO t_MOST_NTH t_MOST_MARKS t_ALL_WEEKDAYS t_HOUR_MINUTES t_MINUTE t_HOUR t_DAY t_MONTH t_WEEKDAY t_MOST_ROW_SIGNS t_NO_PLACE t_MOST_TALLY t_MOST_DEPTH t_MOST_BOOKS t_DAY_MINUTES t_KINDS:Tok}(ZZ:Fs K mg aJ aD aF aG aI aE aB aH aA aL aQ aM aO aK aP aT aS aR a_MONTH_LASTS a_BOUNDS a_BOUNDS_0 a_BOUNDS_1 a_BOUNDS_3 t_LONG_PLACE t_LONG_LAST t_SHORT_YEAR t_FIGURES t_MOST_STRIDE t_MOST_SIGNS t_MOST_ITEMS t_SATURDAY t_SUNDAY t_MOST_BACK t_MOST_DAY t_SUNDAY_TOO t_MOST_NTH t_MOST_MARKS t_ALL_WEEKDAYS t_HOUR_MINUTES t_MINUTE t_HOUR t_DAY t_MONTH t_WEEKDAY t_MOST_ROW_SIGNS t_NO_PLACE t_MOST_TALLY t_MOST_DEPTH t_MOST_BOOKS t_DAY_MINUTES t_KINDS)
include ZZ
theorem atG:Df P w K mg base "is_long" 1 ["year"] (asQ K):=by
 refine ZZ.ex.dfs at7 (fun vs H Q E h=>?_) (fun f cdv A outer s H vs Q E hr h=>?_)
 ·obtain⟨_,rfl,_⟩:=h
  rfl
 obtain⟨y,rfl,q⟩:=h
 refine⟨_,(ss1 (aaH (aDJ (aiQ oEq (eOp adS (v_ 0) eI) eI) (av3 (eOr (aiQ oNe (eOp adS (v_ 0) eI) eI) (av3 (aiQ oEq (eOp adS (v_ 0) eI) eI))))))),?_⟩
 refine⟨_,rfl,_,_,rfl,rfl,(by show (0:Int)<4;decide),rfl,_,rfl,?_⟩
 refine ifI (fun c1=>?_) (fun c1=>?_)
 ·refine⟨_,rfl,_,_,rfl,rfl,(by show (0:Int)<100;decide),rfl,_,rfl,?_⟩
  refine ifNI (fun c2=>?_) (fun c2=>?_)
  ·rw[aqP ⟨c1,.inl c2⟩] at q
   exact q
  ·refine⟨_,rfl,_,_,rfl,rfl,(by show (0:Int)<400;decide),rfl,?_⟩
   by_cases c3:y%400=0
   ·rw[aqP ⟨c1,.inr c3⟩] at q
    show Q (.bl (decide (V.int (y%400)=V.int 0))) H
    rw[d6 (int_eq.mpr c3)]
    exact q
   ·rw[arS (by omega)] at q
    show Q (.bl (decide (V.int (y%400)=V.int 0))) H
    rw[d8 fun e=>c3 (int_eq.mp e)]
    exact q
 ·rw[arS (by omega)] at q
  exact q
theorem at9:Df P w K mg base "last_of" 2 ["year","month"] (at5 K):=by
 refine ZZ.ey.dfs as3 (fun vs H Q E h=>?_) (fun f cdv A outer s H vs Q E hr h=>?_)
 ·obtain⟨_,_,rfl,_⟩:=h
  rfl
 obtain⟨y,m,rfl,⟨h1,h2⟩,q⟩:=h
 refine⟨_,(ssC (sIf (tW (aEV (tCm oEq (v_ 1) eI) (aw6 (tVa (eD (atG ZZ) hr (aC (v_ 0) aN)))))) (ss1 (aaH eI)) ssN)
   (ss1 (aaH (eIx xT (eGl (v:=.ref a_MONTH_LASTS) ZZ.c0 rfl) (eOp adN (v_ 1) eI))))),?_⟩
 refine⟨_,rfl,rfl,_,rfl,?_⟩
 refine ifI (fun c1=>?_) (fun c1=>?_)
 ·refine⟨_,rfl,_,rfl,_,rfl,?_⟩
  by_cases c2:ac6 y=true
  ·have e:adP y m=29:=by unfold adP azC;rw[if_pos c1,if_pos c2];rfl
   rw[e] at q
   show if ac6 y=true then _ else _
   rw[if_pos c2]
   exact q
  ·have e:adP y m=lasts.getD (m-1).toNat 0:=by unfold adP azC;rw[if_pos c1,if_neg c2,c1];rfl
   rw[e] at q
   show if ac6 y=true then _ else _
   rw[if_neg c2]
   refine⟨_,rfl,_,_,rfl,rfl,a_MONTH_LASTS,_,_,_,rfl,rfl,ZZ.bk H,aqY h1 h2,?_⟩
   exact q
 ·have e:adP y m=lasts.getD (m-1).toNat 0:=by unfold adP;rw[if_neg c1]
  rw[e] at q
  refine abM ?_
  refine⟨_,rfl,_,_,rfl,rfl,a_MONTH_LASTS,_,_,_,rfl,rfl,ZZ.bk H,aqY h1 h2,?_⟩
  exact q
theorem ac1:Df P w K mg base "month_at" 3 ["kind"] (asN K):=by
 refine ZZ.eg.dfs sc_month_at (fun vs H Q E h=>?_) (fun f cdv A outer s H vs Q E hr h=>?_)
 ·obtain⟨_,rfl,_⟩:=h
  rfl
 obtain⟨k,rfl,hk,q⟩:=h
 refine⟨_,(ssC (aaP 1 (eOp av5 (v_ 0) eI) sc_month_at.nd)
   (ssC (aaP 2 (eOp adS (v_ 0) eI) sc_month_at.nd)
   (ssC (sIf (tCm oEq (v_ 1) (eGl (v:=.int 12) ZZ.dc ⟨_,rfl⟩)) (ss1 (aaH (ab8 (aC eI (aC (eGl (v:=.int 29) ZZ.dv ⟨_,rfl⟩) (aC (v_ 2) aN)))))) ssN)
   (ss1 (aaH (ab8 (aC (eOp ab1 (v_ 1) eI) (aC (eD (at9 ZZ) hr (aC (eGl (v:=.int 1) ZZ.dd ⟨_,rfl⟩) (aC (eOp ab1 (v_ 1) eI) aN))) (aC (v_ 2) aN))))))))),?_⟩
 refine⟨_,rfl,_,_,rfl,rfl,⟨by decide,by decide⟩,?_⟩
 refine⟨_,rfl,_,_,rfl,rfl,(by show (0:Int)<7;decide),?_⟩
 refine⟨_,rfl,rfl,_,rfl,ifI (fun c=>?_) (fun c=>?_)⟩
 ·refine⟨_,rfl,(zL 3),fun p hp=>?_⟩
  exact q p _ (aaB hp _) (by unfold aqQ;rw[if_pos c];exact aaA)
 ·refine⟨_,rfl,_,_,rfl,rfl,_,rfl,_,_,rfl,rfl,_,_,rfl,⟨by omega,by omega⟩,_,rfl,(zL 3),fun p hp=>?_⟩
  exact q p _ (aaB hp _) (by unfold aqQ;rw[if_neg c];exact aaA)
theorem amY:Df P w K mg base "all_figures" 1 ["text"] (amU K):=by
 refine ZZ.c3.dfs amO (fun vs H Q E h=>?_) (fun f cdv A outer s H vs Q E hr h=>?_)
 ·obtain⟨_,rfl,_⟩:=h
  rfl
 obtain⟨l,rfl,hl,q⟩:=h
 refine⟨_,(ss1 (aaH (aDJ (aiQ oNe (v_ 0) (eSx [])) (av3 (eCB aFY ZZ.ef boot_all (aC (ac4 [] [] (iX (v_ 0)) (fun _ _ _ _ _ _=>fsN) (fun _ _ _ _ _ _=>(aiQ oInX (v_ 0) (eGl (v:=.str (Tx [48,49,50,51,52,53,54,55,56,57])) ZZ.ew ⟨_,rfl⟩)))) aN)))))),?_⟩
 refine⟨_,rfl,rfl,_,rfl,?_⟩
 rw[aw8 l []]
 by_cases c:l=[]
 ·rw[d6 c]
  have e:apF l=false:=by unfold apF;rw[d6 c];rfl
  rw[e] at q
  exact abM (q H (Same.refl H))
 ·rw[d8 c]
  have e:apF l=l.all af7:=by unfold apF;rw[d8 c];rfl
  rw[e] at q
  refine ab6 ⟨_,rfl,Tx l,rfl,azB (xs:=l) (fun i z=>z=((l.take i).map af7).map V.bl) (by rw[dY];omega) rfl ?_ ?_⟩
  ·intro i ch z D H2 E' F' hv hR hD s2 hz hE hF
   subst hR
   refine⟨_,rfl,ch,aEW,rfl,rfl,?_⟩
   rw[ayD]
   exact hE _ _ (Same.refl _) (by rw[bK,hv,aZ,aZ];rfl)
  ·intro D H2 z hR hD s2 hz
   subst hR
   rw[bS] at hz
   refine⟨D,l.map af7,rfl,SqL.of hz,?_⟩
   rw[List.all_map]
   exact q H2 s2
theorem af2:Df P w K mg base "is_written" 2 ["text"] (anG K):=by
 refine ZZ.dj.dfs am9 (fun vs H Q E h=>?_) (fun f cdv A outer s H vs Q E hr h=>?_)
 ·obtain⟨_,rfl,_⟩:=h
  rfl
 obtain⟨l,rfl,hl,q⟩:=h
 refine⟨_,(ss1 (aaH (aDJ (eD (amY ZZ) hr (aC (v_ 0) aN)) (av3 (eOr (aiQ oEq (v_ 0) (eSx [48])) (av3 (aiQ oNe (eIx xX (v_ 0) eI) (eSx [48])))))))),?_⟩
 refine⟨_,rfl,l,rfl,hl,fun H1 s1=>⟨_,rfl,?_⟩⟩
 refine if2 (fun c=>?_) (fun c=>?_)
 ·have hne:l≠[]:=fun e=>by
   unfold apF at c
   rw[d6 e] at c
   exact absurd (show false=true from c) bC
  refine⟨_,rfl,rfl,_,rfl,?_⟩
  rw[aw8 l [48]]
  by_cases c2:l=[48]
  ·rw[d6 c2]
   have e:isW l=true:=by unfold isW;rw[c,d6 c2];rfl
   rw[e] at q
   exact ab6 (q H1 s1)
  ·rw[d8 c2]
   obtain⟨x,r,rfl⟩:∃x r,l=x::r:=by
    cases l with
    |nil=>exact absurd rfl hne
    |cons x r=>exact⟨x,r,rfl⟩
   refine abM ⟨_,rfl,x::r,0,x,rfl,rfl,(by rw[dY];omega),(show atI (x::r) ((0:Nat):Int)=some x from adU rfl),rfl,?_⟩
   rw[aw8 [x] [48]]
   have e:isW (x::r)= !decide ([x]=[48]):=by
    unfold isW
    rw[c,d8 c2]
    show (!decide (x=48))=_
    rw[decide_eq_decide.mpr (show x=48↔[x]=[48] by simp)]
   rw[e] at q
   exact q H1 s1
 ·have e:isW l=false:=by unfold isW;rw[c];rfl
  rw[e] at q
  exact q H1 s1
theorem atJ:Df P w K mg base "has" 1 ["mask","number"] (aDI K):=by
 refine ZZ.fp.dfs aDH (fun vs H Q E h=>?_) (fun f cdv A outer s H vs Q E hr h=>?_)
 ·obtain⟨_,_,rfl,_⟩:=h
  rfl
 obtain⟨m,n,rfl,h0,q⟩:=h
 refine⟨_,(ss1 (aaH (aiQ oEq (eOp aoS (eOp azY (v_ 0) (v_ 1)) eI) eI))),?_⟩
 refine⟨_,rfl,_,rfl,_,_,rfl,rfl,h0.2,_,_,rfl,rfl,rfl,?_⟩
 have e:decide (V.int (Builtin.bitAnd (m / 2^n.toNat) 1)=V.int 1)=tb m n.toNat:=by
  rw[←azW h0.1]
  exact decide_eq_decide.mpr int_eq
 show Q (.bl (decide (V.int (Builtin.bitAnd (m / 2^n.toNat) 1)=V.int 1))) H
 rw[e]
 exact q
theorem atP:Df P w K mg base "mask_of" 1 ["numbers"] (asX K):=by
 refine ZZ.ez.dfs sc_mask_of (fun vs H Q E h=>?_) (fun f cdv A outer s H vs Q E hr h=>?_)
 ·obtain⟨_,_,rfl,_⟩:=h
  rfl
 obtain⟨a,zs,rfl,hS,hz,q⟩:=h
 refine⟨_,(ssC (aaP 1 eI sc_mask_of.nd)
   (ssC (ah9 (iL (v_ 0)) (gN 2 sc_mask_of.nd) (ss1 (aaP 1 (eOp oOr (v_ 1) (eOp ahV eI (v_ 2))) sc_mask_of.nd)) PassesOwn.never)
   (ss1 (aaH (v_ 1))))),?_⟩
 refine⟨_,rfl,a,rfl,⟨_,hS⟩,aeV (K:=K) (a:=a) (xs:=zs.map V.int) (fun i σ H2=>H2=H/\∃u:Option V,σ=[some (.ref a),some (.int (abY (zs.take i))),u]) ⟨rfl,_,rfl⟩ (fun i σ H2 _ hP=>by rw[hP.1];exact hS) ?_ ?_⟩
 ·rintro i x σ H2 hx ⟨rfl,u,rfl⟩
  rw[bE] at hx
  cases ez:zs[i]? with
  |none=>rw[ez] at hx;cases hx
  |some z=>
   rw[ez] at hx
   obtain rfl:V.int z=x:=bA hx
   have h:=hz z (bW ez)
   have et:abY (zs.take (i+1))=Builtin.bitOr (abY (zs.take i)) (1*2^z.toNat):=by
    rw[bK,ez,←asS]
    rfl
   exact⟨_,rfl,_,rfl,_,_,rfl,rfl,⟨h.1,by omega,by decide⟩,_,_,rfl,rfl,rfl,_,by rw[et];rfl⟩
 ·rintro σ H2 ⟨rfl,u,rfl⟩
  rw[aU,bS]
  exact⟨_,rfl,q⟩
theorem anN:Df P w K mg base "numbers_in" 2 ["mask"] (am5 K):=by
 refine ZZ.dk.dfs am3 (fun vs H Q E h=>?_) (fun f cdv A outer s H vs Q E hr h=>?_)
 ·obtain⟨_,rfl,_⟩:=h
  rfl
 obtain⟨m,rfl,hm,q⟩:=h
 refine⟨_,(ss1 (aaH (ac4 ["mask"] [0] (iR1 ZZ.ai (aC (eBL (v_ 0)) aN)) (fun _ _ _ _ _ _=>(fs1 (tVa (eD (atJ ZZ) hr (aC (v_ 1) (aC (v_ 0) aN)))))) (fun _ _ _ _ _ _=>(v_ 0))))),?_⟩
 refine⟨_,rfl,rfl,_,rfl,rfl,_,rfl,by omega,by omega,adV (fun i z=>z=(flt (tb m) 0 i).map V.int) (by rw[dY,bP];omega) az9 ?_ ?_⟩
 ·intro i z D H2 E' F' hi hR hD s2 hz hE hF
  subst hR
  refine⟨_,rfl,_,rfl,_,_,rfl,⟨hm.1,by omega⟩,_,rfl,?_⟩
  have e0:(0+(i:Int)).toNat=i:=by omega
  show if tb m (0+(i:Int)).toNat=true then _ else _
  rw[e0]
  by_cases c:tb m i=true
  ·rw[if_pos c]
   exact⟨_,rfl,hE _ _ (Same.refl _) (by rw[auO c,aZ];rfl)⟩
  ·rw[if_neg c]
   exact hF _ (Same.refl _) (by rw[atZ (by simpa using c)])
 ·intro D H2 z hR hD s2 hz
  subst hR
  rw[bP] at hz
  exact q D H2 s2 hz
theorem ajA:Df P w K mg base "run_mask" 2 ["first","last","stride"] (aq0 K):=by
 refine ZZ.eh.dfs arC (fun vs H Q E h=>?_) (fun f cdv A outer s H vs Q E hr h=>?_)
 ·obtain⟨_,_,_,rfl,_⟩:=h
  rfl
 obtain⟨a,b,st,rfl,ha,hb,hs,q⟩:=h
 refine⟨_,(ss1 (aaH (eD (atP ZZ) hr (aC (eCT cLR ZZ.di PyProof.Rows.boot_list (aC (eCT cRg3 ZZ.ai boot_range (aC (v_ 0) (aC (eOp ab1 (v_ 1) eI) (aC (v_ 2) aN)))) aN)) aN)))),?_⟩
 obtain⟨n1,n2⟩:=auR ha.1 hb.2 hs.1
 have bd:∀z∈acU a b st,0<=z/\z<=100000:=fun z hz=>by
  have:=(aoW hs.1).mp hz
  omega
 refine⟨_,rfl,_,rfl,_,_,rfl,rfl,_,rfl,_,_,_,rfl,⟨hs.1,by omega⟩,fun p hp=>⟨p,a,b+1,st,(Builtin.Range.rangeSize a (b+1) st).toNat,rfl,aaA,awU ha.1 ha.2 hb.1 hb.2 hs.1 hs.2,n2,(by omega),fun l hl=>⟨l,acU a b st,rfl,SqL.of (by rw[akU,cD];exact aaA),bd,?_⟩⟩⟩
 exact q _ ((aaB hp _).trans (aaB hl _))
theorem abH:Df P w K mg base "read_number" 3 ["text","low","high"] (amH K):=by
 refine ZZ.c4.dfs sc_read_number (fun vs H Q E h=>?_) (fun f cdv A outer s H vs Q E hr h=>?_)
 ·obtain⟨_,_,_,rfl,_⟩:=h
  rfl
 obtain⟨l,lo,hi,rfl,hl,q⟩:=h
 refine⟨_,(ssC (sIf (tNo (tVa (eD (af2 ZZ) hr (aC (v_ 0) aN)))) (ss1 (aaH eN)) ssN)
   (ssC (aaP 3 (eCT aF3 ZZ.fl PyProof.Rows.boot_int (aC (v_ 0) aN)) sc_read_number.nd)
   (ssC (sIf (tCh oLe oLe (v_ 1) (v_ 3) (v_ 2)) (ss1 (aaH (v_ 3))) ssN)
   (ss1 (aaH eN))))),?_⟩
 refine⟨_,rfl,l,rfl,(by omega),fun H1 s1=>⟨_,rfl,?_⟩⟩
 by_cases c:isW l=true
 ·rw[c]
  obtain⟨d1,d2⟩:=as2 c
  refine abM ⟨_,rfl,l,rfl,d1,d2,(by omega),?_⟩
  refine⟨_,rfl,_,rfl,_,_,rfl,rfl,_,rfl,?_⟩
  show if decide (lo<=dv l)=true then _ else _
  refine ifD (fun c1=>⟨_,rfl,_,_,rfl,rfl,_,rfl,?_⟩) (fun c1=>⟨_,rfl,?_⟩)
  ·show if decide (dv l<=hi)=true then _ else _
   refine ifD (fun c2=>?_) (fun c2=>?_)
   ·have e:aa6 lo hi l=some (dv l):=by unfold aa6;rw[if_pos c,if_pos ⟨c1,c2⟩]
    rw[e] at q
    exact⟨_,rfl,q H1 s1⟩
   ·have e:aa6 lo hi l=none:=by unfold aa6;rw[if_pos c,if_neg fun z=>c2 z.2]
    rw[e] at q
    exact q H1 s1
  ·have e:aa6 lo hi l=none:=by unfold aa6;rw[if_pos c,if_neg fun z=>c1 z.1]
   rw[e] at q
   exact abM (q H1 s1)
 ·have c':isW l=false:=by simpa using c
  rw[c']
  have e:aa6 lo hi l=none:=by unfold aa6;rw[if_neg c]
  rw[e] at q
  exact ab6 (q H1 s1)
theorem ajF:Df P w K mg base "read_run" 4 ["text","low","high"] (arA K):=by
 refine ZZ.ei.dfs sc_read_run (fun vs H Q E h=>?_) (fun f cdv A outer s H vs Q E hr h=>?_)
 ·obtain⟨_,_,_,rfl,_⟩:=h
  rfl
 obtain⟨l,lo,hi,rfl,hl,q⟩:=h
 refine⟨_,(ssC (sIf (tCm oEq (v_ 0) (eSx [42])) (ss1 (aaH (ab8 (aC (v_ 1) (aC (v_ 2) aN))))) ssN)
   (ssC (au7 3 ["low","high"] [1,2] (iL (avU (v_ 0) (eSx [45]))) (fun _ _ _ _ _ _=>fsN) (fun _ _ _ _ _ _=>(eD (abH ZZ) hr (aC (v_ 0) (aC (v_ 1) (aC (v_ 2) aN))))) sc_read_run.nd)
   (ssC (sIf (tW (wOr (tCm oGt (eCB apI ZZ.aj PySem.boot_len (aC (v_ 3) aN)) eI) (wOr (tCm oIn eN (v_ 3)) (anM (tCm oGt (eIx xL (v_ 3) eI) (eIx xL (v_ 3) (eUn as4 eI))))))) (ss1 (aaH eN)) ssN)
   (ss1 (aaH (ab8 (aC (eIx xL (v_ 3) eI) (aC (eIx xL (v_ 3) (eUn as4 eI)) aN)))))))),?_⟩
 refine⟨_,rfl,rfl,_,rfl,?_⟩
 rw[aw8 l [42]]
 by_cases c:l=[42]
 ·rw[d6 c]
  refine ab6 ⟨_,rfl,_,rfl,(zL 2),fun p hp=>?_⟩
  have e:aa7 lo hi l=some (lo,hi):=by unfold aa7;rw[if_pos c]
  rw[e] at q
  exact q _ _ (aaB hp _) ⟨p,rfl,aaA⟩
 rw[d8 c]
 have hsl:=ahC 45 l
 have eR:aa7 lo hi l=ajE ((spl 45 l).map (aa6 lo hi)):=by unfold aa7;rw[if_neg c]
 rw[eR] at q
 refine abM ⟨_,rfl,rfl,l,45,rfl,rfl,(by rw[dY];omega),fun ps hps=>⟨ps,rfl,⟨_,SqL.of aaA⟩,acT (xs:=(spl 45 l).map fun q=>V.str (Tx q)) (fun i z=>z=((spl 45 l).take i).map fun q=>oV (aa6 lo hi q)) (by rw[aU,dY];omega) rfl (SqL.of aaA) ?_ ?_⟩⟩
 ·intro i v z D H2 E' F' hv hR hD s2 hz hE hF
  subst hR
  rw[bE] at hv
  cases ew:(spl 45 l)[i]? with
  |none=>rw[ew] at hv;cases hv
  |some w0=>
   rw[ew] at hv
   obtain rfl:V.str (Tx w0)=v:=bA hv
   have hw:=ab4 45 l w0 (bW ew)
   exact⟨_,rfl,_,rfl,_,rfl,w0,lo,hi,rfl,(by omega),fun H3 s3=>hE _ _ s3 (by rw[bK,ew,aZ];rfl)⟩
 intro D H2 z hR hD s2 hz
 subst hR
 rw[aU,bS] at hz
 have hz2:H2 D=some (.lst (((spl 45 l).map (aa6 lo hi)).map oV)):=by rw[hz,cD];rfl
 have hlen:((spl 45 l).map (aa6 lo hi)).length<=600:=by rw[aU];omega
 have hnn:(spl 45 l).map (aa6 lo hi)≠[]:=fun e=>aEF 45 l (List.map_eq_nil_iff.mp e)
 generalize (spl 45 l).map (aa6 lo hi)=es at hz2 q hlen hnn
 have s02:Same H H2:=(aaB hps _).trans s2
 have hfl:(es.map oV).all agB=true:=aAH es
 refine⟨_,rfl,D,_,rfl,.inl (SqL.of hz2),_,_,rfl,rfl,_,rfl,?_⟩
 match es,hnn with
 |[],h=>exact absurd rfl h
 |[none],_=>
  refine abM ⟨_,rfl,D,_,rfl,.inl (SqL.of hz2),rfl,hfl,_,rfl,ab6 ?_⟩
  exact q _ _ s02 rfl
 |[some a],_=>
  refine abM ⟨_,rfl,D,_,rfl,.inl (SqL.of hz2),rfl,hfl,_,rfl,abM ⟨_,rfl,D,_,_,_,rfl,rfl,SqL.of hz2,rfl,_,rfl,_,rfl,D,_,_,_,rfl,rfl,SqL.of hz2,rfl,_,_,rfl,rfl,_,rfl,?_⟩⟩
  rw[d8 (show ¬a<a by omega)]
  refine abM ⟨_,rfl,D,_,_,_,rfl,rfl,SqL.of hz2,rfl,_,rfl,_,rfl,D,_,_,_,rfl,rfl,SqL.of hz2,rfl,(zL 2),fun p hp=>?_⟩
  exact q _ _ (s02.trans (aaB hp _)) ⟨p,rfl,aaA⟩
 |[none,y],_=>
  refine abM ⟨_,rfl,D,_,rfl,.inl (SqL.of hz2),rfl,hfl,_,rfl,ab6 ?_⟩
  exact q _ _ s02 rfl
 |[some a,none],_=>
  refine abM ⟨_,rfl,D,_,rfl,.inl (SqL.of hz2),rfl,hfl,_,rfl,ab6 ?_⟩
  exact q _ _ s02 rfl
 |[some a,some b],_=>
  refine abM ⟨_,rfl,D,_,rfl,.inl (SqL.of hz2),rfl,hfl,_,rfl,abM ⟨_,rfl,D,_,_,_,rfl,rfl,SqL.of hz2,rfl,_,rfl,_,rfl,D,_,_,_,rfl,rfl,SqL.of hz2,rfl,_,_,rfl,rfl,_,rfl,?_⟩⟩
  refine ifD (fun c2=>?_) (fun c2=>?_)
  ·have e:ajE [some a,some b]=none:=by show (if b<a then none else some (a,b))=none;rw[if_pos c2]
   rw[e] at q
   exact q _ _ s02 rfl
  ·have e:ajE [some a,some b]=some (a,b):=by show (if b<a then none else some (a,b))=some (a,b);rw[if_neg c2]
   rw[e] at q
   refine⟨_,rfl,D,_,_,_,rfl,rfl,SqL.of hz2,rfl,_,rfl,_,rfl,D,_,_,_,rfl,rfl,SqL.of hz2,rfl,(zL 2),fun p hp=>?_⟩
   exact q _ _ (s02.trans (aaB hp _)) ⟨p,rfl,aaA⟩
 |x::y::u::r,_=>
  have e3:decide ((2:Int)<(((x::y::u::r).map oV).length:Nat))=true:=d6 (by rw[aU];show (2:Int)<((r.length+1+1+1:Nat):Int);omega)
  refine ifT e3 ?_
  have e:ajE (x::y::u::r)=none:=by cases x<;>cases y<;>rfl
  rw[e] at q
  exact q _ _ s02 rfl
theorem aj5:Df P w K mg base "read_strided" 5 ["run_text","stride_text","low","high"] (aj7 K):=by
 refine ZZ.cm.dfs sc_read_strided (fun vs H Q E h=>?_) (fun f cdv A outer s H vs Q E hr h=>?_)
 ·obtain⟨_,_,_,_,rfl,_⟩:=h
  rfl
 obtain⟨r,st,lo,hi,rfl,hr1,hs1,hb,q⟩:=h
 refine⟨_,(ssC (aaP 4 (eD (ajF ZZ) hr (aC (v_ 0) (aC (v_ 2) (aC (v_ 3) aN)))) sc_read_strided.nd)
   (ssC (aaP 5 (eD (abH ZZ) hr (aC (v_ 1) (aC eI (aC (eGl (v:=.int 99) ZZ.c1 ⟨_,rfl⟩) aN)))) sc_read_strided.nd)
   (ssC (sIf (tW (wOr (tCm aiE (v_ 4) eN) (anM (tCm aiE (v_ 5) eN)))) (ss1 (aaH eN)) ssN)
   (ssC (aaP 6 (eIf (tVa (eD (af2 ZZ) hr (aC (v_ 0) aN))) (v_ 3) (eIx xT (v_ 4) eI)) sc_read_strided.nd)
   (ss1 (aaH (eD (ajA ZZ) hr (aC (eIx xT (v_ 4) eI) (aC (v_ 6) (aC (v_ 5) aN)))))))))),?_⟩
 refine⟨_,rfl,_,rfl,_,rfl,r,lo,hi,rfl,(by omega),fun rv H1 s1 hrv=>?_⟩
 refine⟨_,rfl,st,1,99,rfl,(by omega),fun H2 s2=>?_⟩
 cases er:aa7 lo hi r with
 |none=>
  rw[er] at hrv
  have hrv:rv=.non:=hrv
  subst hrv
  have e:abU lo hi r st=none:=by unfold abU;rw[er]
  rw[e] at q
  exact⟨_,rfl,rfl,_,rfl,ab6 (q H2 (s1.trans s2))⟩
 |some ab=>
  obtain⟨a,b⟩:=ab
  rw[er] at hrv
  obtain⟨p,rfl,hp⟩:=hrv
  have bd:=ak5 hb.2.1 er
  refine⟨_,rfl,rfl,_,rfl,ifF rfl ⟨_,rfl,rfl,_,rfl,?_⟩⟩
  cases es:aa6 1 99 st with
  |none=>
   have e:abU lo hi r st=none:=by unfold abU;rw[er,es]
   rw[e] at q
   exact ifT rfl (q H2 (s1.trans s2))
  |some sv=>
   have bs:=arK es
   have hp2:=s2 _ _ hp
   refine ifF rfl ⟨_,rfl,r,rfl,(by omega),fun H3 s3=>⟨_,rfl,?_⟩⟩
   have hp3:=s3 _ _ hp2
   refine if2 (fun c=>?_) (fun c=>?_)
   ·have e:abU lo hi r st=some (afQ a hi sv):=by unfold abU;rw[er,es];show some (afQ a (if isW r=true then hi else b) sv)=_;rw[if_pos c]
    rw[e] at q
    refine⟨_,rfl,_,rfl,p,_,_,_,rfl,rfl,SqT.of hp3,rfl,_,rfl,_,rfl,a,hi,sv,rfl,⟨by omega,by omega⟩,⟨by omega,by omega⟩,⟨by omega,by omega⟩,fun H4 s4=>?_⟩
    exact q H4 (s1.trans (s2.trans (s3.trans s4)))
   ·have e:abU lo hi r st=some (afQ a b sv):=by unfold abU;rw[er,es];show some (afQ a (if isW r=true then hi else b) sv)=_;rw[if_neg (by rw[c];exact bC)]
    rw[e] at q
    refine⟨_,rfl,p,_,_,_,rfl,rfl,SqT.of hp3,rfl,_,rfl,p,_,_,_,rfl,rfl,SqT.of hp3,rfl,_,rfl,_,rfl,a,b,sv,rfl,⟨by omega,by omega⟩,⟨by omega,by omega⟩,⟨by omega,by omega⟩,fun H4 s4=>?_⟩
    exact q H4 (s1.trans (s2.trans (s3.trans s4)))
theorem ag6:Df P w K mg base "read_item" 6 ["item","low","high"] (ap5 K):=by
 refine ZZ.dx.dfs sc_read_item (fun vs H Q E h=>?_) (fun f cdv A outer s H vs Q E hr h=>?_)
 ·obtain⟨_,_,_,rfl,_⟩:=h
  rfl
 obtain⟨l,lo,hi,rfl,hl,hb,q⟩:=h
 refine⟨_,(ssC (aaP 3 (avU (v_ 0) (eSx [47])) sc_read_item.nd)
   (ssC (sIf (tCm oEq (eCB apI ZZ.aj PySem.boot_len (aC (v_ 3) aN)) eI) (ss1 (aaH (eD (aj5 ZZ) hr (aC (eIx xL (v_ 3) eI) (aC (eIx xL (v_ 3) eI) (aC (v_ 1) (aC (v_ 2) aN))))))) ssN)
   (ssC (aaP 4 (eD (ajF ZZ) hr (aC (v_ 0) (aC (v_ 1) (aC (v_ 2) aN)))) sc_read_item.nd)
   (ssC (sIf (tCm aiE (v_ 4) eN) (ss1 (aaH eN)) ssN)
   (ss1 (aaH (eD (ajA ZZ) hr (aC (eIx xT (v_ 4) eI) (aC (eIx xT (v_ 4) eI) (aC eI aN)))))))))),?_⟩
 have hsl:=ahC 47 l
 have hml:=ab4 47 l
 refine⟨_,rfl,rfl,l,47,rfl,rfl,(by rw[dY];omega),fun ps hps=>?_⟩
 have s0:=aaB hps (.lst ((spl 47 l).map fun q=>V.str (Tx q)))
 refine⟨_,rfl,ps,_,rfl,.inl (SqL.of aaA),rfl,_,rfl,?_⟩
 have two:(∃r s,spl 47 l=[r,s])∨(∀r s,spl 47 l≠[r,s]):=by
  by_cases z:∃r s,spl 47 l=[r,s]
  ·exact .inl z
  ·exact .inr fun r s e=>z ⟨r,s,e⟩
 rcases two with ⟨r,s,e2⟩ | hno
 ·have e:aaI lo hi l=abU lo hi r s:=by unfold aaI;rw[e2]
  rw[e] at q
  have h1:=hml r (by rw[e2];simp)
  have h2:=hml s (by rw[e2];simp)
  rw[e2]
  refine ifT rfl ⟨_,rfl,ps,_,_,_,rfl,rfl,SqL.of aaA,rfl,_,rfl,ps,_,_,_,rfl,rfl,SqL.of aaA,rfl,_,rfl,_,rfl,r,s,lo,hi,rfl,(by omega),(by omega),hb,fun H1 s1=>?_⟩
  exact q H1 ((aaB hps _).trans s1)
 ·have hlen:¬(spl 47 l).length=2:=fun e=>by
   match h:spl 47 l,e with
   |[r,s],_=>exact hno r s h
  have e:aaI lo hi l=match aa7 lo hi l with | some (a,b)=>some (afQ a b 1) | none=>none:=by
   unfold aaI
   split
   ·rename_i r s h
    exact absurd h (hno r s)
   ·rfl
  refine ifF (d8 fun z=>hlen (by have z:=V.int.inj z;rw[aU] at z;omega)) ?_
  refine⟨_,rfl,_,rfl,_,rfl,l,lo,hi,rfl,(by omega),fun rv H1 s1 hrv=>?_⟩
  cases er:aa7 lo hi l with
  |none=>
   rw[er] at hrv e
   have hrv:rv=.non:=hrv
   subst hrv
   rw[e] at q
   exact⟨_,rfl,rfl,_,rfl,ab6 (q H1 (s0.trans s1))⟩
  |some ab=>
   obtain⟨a,b⟩:=ab
   rw[er] at hrv e
   obtain⟨p,rfl,hp⟩:=hrv
   have bd:=ak5 hb.2.1 er
   have e:aaI lo hi l=some (afQ a b 1):=e
   rw[e] at q
   refine⟨_,rfl,rfl,_,rfl,ifF rfl ⟨_,rfl,p,_,_,_,rfl,rfl,SqT.of hp,rfl,_,rfl,p,_,_,_,rfl,rfl,SqT.of hp,rfl,a,b,1,rfl,⟨by omega,by omega⟩,⟨by omega,by omega⟩,⟨by decide,by decide⟩,fun H4 s4=>?_⟩⟩
   exact q H4 (s0.trans (s1.trans s4))
theorem anA:Df P w K mg base "read_field" 7 ["text","low","high"] (anB K):=by
 refine ZZ.dl.dfs sc_read_field (fun vs H Q E h=>?_) (fun f cdv A outer s H vs Q E hr h=>?_)
 ·obtain⟨_,_,_,rfl,_⟩:=h
  rfl
 obtain⟨l,lo,hi,rfl,hl,hb,⟨hk,hok⟩,q⟩:=h
 refine⟨_,(ssC (sIf (tW (wOr (tNo (tVa (eCB cIs ZZ.ah PyProof.Rows.boot_isinstance (aC (v_ 0) (aC (eTy ZZ.af PyProof.Rows.boot_str) aN))))) (anM (tCm oGt (eCB azH ZZ.aj PySem.boot_len (aC (v_ 0) aN)) (eGl (v:=.int 300) ZZ.bm ⟨_,rfl⟩))))) (ss1 aqV) ssN)
   (ssC (aaP 3 (avU (v_ 0) (eSx [44])) sc_read_field.nd)
   (ssC (aaP 4 eI sc_read_field.nd)
   (ssC (ah9 (iE ZZ.as (eSl slL (v_ 3) poN (poS (eGl (v:=.int 40) ZZ.an ⟨_,rfl⟩)))) (gTu (gsC (gN 5 sc_read_field.nd) (gsC (gN 6 sc_read_field.nd) gsN))) (ssC (aaP 7 (eD (ag6 ZZ) hr (aC (v_ 6) (aC (v_ 1) (aC (v_ 2) aN)))) sc_read_field.nd)
   (ssC (sIf (tCm aiE (v_ 7) eN) (ss1 aqV) ssN)
   (ss1 (aaP 4 (eOp oOr (v_ 4) (v_ 7)) sc_read_field.nd)))) PassesOwn.never)
   (ssC (sIf (tCm oGt (eCB apI ZZ.aj PySem.boot_len (aC (v_ 3) aN)) (eGl (v:=.int 40) ZZ.an ⟨_,rfl⟩)) (ss1 aqV) ssN)
   (ss1 (aaH (v_ 4)))))))),?_⟩
 have hml:=ab4 44 l
 refine⟨_,rfl,_,.str,.str,rfl,(by decide),rfl,_,rfl,ifF rfl ⟨_,rfl,l,rfl,(by rw[dY];omega),_,_,rfl,rfl,_,rfl,?_⟩⟩
 rw[d8 (show ¬(300:Int)<((l.length:Nat):Int) by omega)]
 refine abM ⟨_,rfl,rfl,l,44,rfl,rfl,(by rw[dY];omega),fun ps hps=>?_⟩
 have s0:=aaB hps (.lst ((spl 44 l).map fun q=>V.str (Tx q)))
 refine⟨_,rfl,_,rfl,ps,_,rfl,SqL.of aaA,fun pc hpc=>?_⟩
 have ecut:akY ((spl 44 l).map fun q=>V.str (Tx q)) none (some 40)=(spl 44 l).map fun q=>V.str (Tx q):=aB9 (by rw[aU];exact hk)
 rw[ecut]
 have s1:=aaB hpc (.lst ((spl 44 l).map fun q=>V.str (Tx q)))
 refine⟨pc,rfl,⟨_,SqL.of aaA⟩,arO (K:=K) (a:=pc) (xs:=(spl 44 l).map fun q=>V.str (Tx q)) (fun i σ H2=>∃(u1 u2 u3:Option V),σ=[some (.str (Tx l)),some (.int lo),some (.int hi),some (.ref ps),some (.int (orM ((adM lo hi l).take i))),u1,u2,u3]/\Same (upd (upd H ps (.lst ((spl 44 l).map fun q=>V.str (Tx q)))) pc (.lst ((spl 44 l).map fun q=>V.str (Tx q)))) H2) ⟨_,_,_,rfl,Same.refl _⟩ (fun i σ H2 _ ⟨_,_,_,_,s2⟩=>SqL.of (s2 _ _ aaA)) ?_ ?_⟩
 ·rintro i x σ H2 T hx ⟨u1,u2,u3,rfl,s2⟩ hT
  rw[bE] at hx
  cases ew:(spl 44 l)[i]? with
  |none=>rw[ew] at hx;cases hx
  |some w0=>
   rw[ew] at hx
   obtain rfl:V.str (Tx w0)=x:=bA hx
   have hw:=hml w0 (bW ew)
   obtain⟨m,em⟩:=dD.mp (hok w0 (bW ew))
   refine⟨T,_,rfl,SqT.of aaA,rfl,_,_,rfl,_,_,rfl,rfl,?_⟩
   refine⟨_,rfl,_,rfl,_,rfl,w0,lo,hi,rfl,(by omega),hb,fun H3 s3=>?_⟩
   rw[em]
   refine⟨_,rfl,rfl,_,rfl,ifF rfl ⟨_,rfl,_,rfl,_,_,rfl,rfl,?_⟩⟩
   have et:orM ((adM lo hi l).take (i+1))=Builtin.bitOr (orM ((adM lo hi l).take i)) m:=by
    rw[←alY,bK]
    unfold adM
    rw[bE,ew]
    show orM (_++[(aaI lo hi w0).getD 0])=_
    rw[em]
    rfl
   exact⟨_,_,_,by rw[et];rfl,s2.trans ((aaB hT _).trans s3)⟩
 ·rintro σ H2 ⟨u1,u2,u3,rfl,s2⟩
  refine⟨_,rfl,ps,_,rfl,.inl (SqL.of (s2 _ _ (s1 _ _ aaA))),_,_,rfl,rfl,_,rfl,?_⟩
  rw[d8 (show ¬(40:Int)<((((spl 44 l).map fun q=>V.str (Tx q)).length:Nat):Int) by rw[aU];omega)]
  refine abM ⟨_,rfl,?_⟩
  rw[aU,show (spl 44 l).length=(adM lo hi l).length by unfold adM;rw[aU],bS]
  exact q H2 (s0.trans (s1.trans s2))
theorem af9:Df P w K mg base "weekday_at" 1 ["day","first"] (am8 K):=by
 refine ZZ.dm.dfs anE (fun vs H Q E h=>?_) (fun f cdv A outer s H vs Q E hr h=>?_)
 ·obtain⟨_,_,rfl,_⟩:=h
  rfl
 obtain⟨d,f,rfl,q⟩:=h
 refine⟨_,(ss1 (aaH (eOp adS (eOp adN (eOp ab1 (v_ 1) (v_ 0)) eI) eI))),?_⟩
 exact⟨_,rfl,_,rfl,_,_,rfl,rfl,_,_,rfl,rfl,_,_,rfl,rfl,(by show (0:Int)<7;decide),q⟩
theorem aeG:Df P w K mg base "all_days" 1 ["last"] (arG K):=by
 refine ZZ.ej.dfs asL (fun vs H Q E h=>?_) (fun f cdv A outer s H vs Q E hr h=>?_)
 ·obtain⟨_,rfl,_⟩:=h
  rfl
 obtain⟨l,rfl,hl,q⟩:=h
 refine⟨_,(ss1 (aaH (eOp adN (eOp ahV eI (v_ 0)) eI))),?_⟩
 exact⟨_,rfl,_,_,rfl,rfl,⟨by omega,by omega,by decide⟩,_,_,rfl,rfl,q⟩
theorem aeD:Df P w K mg base "nearest_work" 2 ["day","last","first"] (akD K):=by
 refine ZZ.cn.dfs sc_nearest_work (fun vs H Q E h=>?_) (fun f cdv A outer s H vs Q E hr h=>?_)
 ·obtain⟨_,_,_,rfl,_⟩:=h
  rfl
 obtain⟨d,l,fi,rfl,q⟩:=h
 refine⟨_,(ssC (aaP 3 (eD (af9 ZZ) hr (aC (v_ 0) (aC (v_ 2) aN))) sc_nearest_work.nd)
   (ssC (sIf (tCm oEq (v_ 3) (eGl (v:=.int 6) ZZ.eb ⟨_,rfl⟩)) (ss1 (aaH (eIf (tCm oGt (v_ 0) eI) (eOp adN (v_ 0) eI) eI))) ssN)
   (ssC (sIf (tCm oEq (v_ 3) (eGl (v:=.int 0) ZZ.b9 ⟨_,rfl⟩)) (ss1 (aaH (eIf (tCm oLt (v_ 0) (v_ 1)) (eOp ab1 (v_ 0) eI) (eOp adN (v_ 1) eI)))) ssN)
   (ss1 (aaH (v_ 0)))))),?_⟩
 refine⟨_,rfl,_,rfl,_,_,rfl,?_⟩
 refine⟨_,rfl,rfl,_,rfl,ifI (fun c=>?_) (fun c=>?_)⟩
 ·refine⟨_,rfl,_,_,rfl,rfl,_,rfl,ifD (fun c2=>⟨_,rfl,_,_,rfl,rfl,?_⟩) (fun c2=>?_)⟩
  ·have e:nw d l fi=d-1:=by unfold nw;rw[if_pos c,if_pos c2]
   rw[e] at q
   exact q
  ·have e:nw d l fi=3:=by unfold nw;rw[if_pos c,if_neg c2]
   rw[e] at q
   exact q
 ·refine⟨_,rfl,rfl,_,rfl,ifI (fun c1=>?_) (fun c1=>?_)⟩
  ·refine⟨_,rfl,_,rfl,_,_,rfl,rfl,_,rfl,ifD (fun c2=>⟨_,rfl,_,_,rfl,rfl,?_⟩) (fun c2=>⟨_,rfl,_,_,rfl,rfl,?_⟩)⟩
   ·have e:nw d l fi=d+1:=by unfold nw;rw[if_neg c,if_pos c1,if_pos c2]
    rw[e] at q
    exact q
   ·have e:nw d l fi=l-2:=by unfold nw;rw[if_neg c,if_pos c1,if_neg c2]
    rw[e] at q
    exact q
  ·have e:nw d l fi=d:=by unfold nw;rw[if_neg c,if_neg c1]
   rw[e] at q
   exact⟨_,rfl,q⟩
theorem apP:Df P w K mg base "first_one" 1 ["weekday","first"] (aqF K):=by
 refine ZZ.dy.dfs apE (fun vs H Q E h=>?_) (fun f cdv A outer s H vs Q E hr h=>?_)
 ·obtain⟨_,_,rfl,_⟩:=h
  rfl
 obtain⟨wd,fi,rfl,q⟩:=h
 refine⟨_,(ss1 (aaH (eOp ab1 eI (eOp adS (eOp adN (v_ 0) (v_ 1)) eI)))),?_⟩
 exact⟨_,rfl,_,rfl,_,_,rfl,rfl,_,_,rfl,rfl,(by show (0:Int)<7;decide),_,_,rfl,rfl,q⟩
theorem apX:DfM P w K mg base aJ "days" 1 ["self","last","first"] (aqH K aJ):=by
 refine ZZ.dz.dfs apG (fun vs H Q E h=>?_) (fun f cdv A outer s H vs Q E hr h=>?_)
 ·obtain⟨_,_,_,rfl,_⟩:=h
  rfl
 obtain⟨p,l,fi,rfl,q⟩:=h
 refine⟨_,(ss1 (aaH eI)),?_⟩
 exact q
theorem afR:DfM P w K mg base aD "__init__" 1 ["self","mask"] (afP K aD):=by
 refine ZZ.b4.dfs afS (fun vs H Q E h=>?_) (fun f cdv A outer s H vs Q E hr h=>?_)
 ·obtain⟨_,_,_,rfl,_⟩:=h
  rfl
 obtain⟨p,dx,m,rfl,hp,q⟩:=h
 refine⟨_,(ss1 (sFl (v_ 0) (v_ 1))),?_⟩
 exact⟨_,rfl,_,rfl,p,aD,dx,[],rfl,hp,ZZ.az.cl,ZZ.bg,(by show 0<1000;decide),q⟩
theorem ajV:DfM P w K mg base aD "days" 2 ["self","last","first"] (akB K aD):=by
 refine ZZ.co.dfs aj3 (fun vs H Q E h=>?_) (fun f cdv A outer s H vs Q E hr h=>?_)
 ·obtain⟨_,_,_,_,_,rfl,_⟩:=h
  rfl
 obtain⟨p,dx,m,l,fi,rfl,hp,hl,q⟩:=h
 refine⟨_,(ss1 (aaH (eOp aoS (eFl (v_ 0)) (eD (aeG ZZ) hr (aC (v_ 1) aN))))),?_⟩
 exact⟨_,rfl,p,aD,dx,_,_,rfl,hp,ZZ.az.cl,ZZ.bg,rfl,_,rfl,_,rfl,hl.1,_,_,rfl,rfl,q⟩
theorem adK:DfMD P w K mg base aF "__init__" 1 ["self","back"] (ahW K aF) [.int 0]:=by
 refine ZZ.cc.dfs aiJ (fun vs H Q E h=>?_) (fun f cdv A outer s H vs Q E hr h=>?_)
 ·obtain⟨_,_,_,rfl,_⟩:=h
  rfl
 obtain⟨p,dx,m,rfl,hp,q⟩:=h
 refine⟨_,(ss1 (sFl (v_ 0) (v_ 1))),?_⟩
 exact⟨_,rfl,_,rfl,p,aF,dx,[],rfl,hp,ZZ.a0.cl,ZZ.a4,(by show 0<1000;decide),q⟩
theorem aqD:DfM P w K mg base aF "days" 1 ["self","last","first"] (apZ K aF):=by
 refine ZZ.d0.dfs aqB (fun vs H Q E h=>?_) (fun f cdv A outer s H vs Q E hr h=>?_)
 ·obtain⟨_,_,_,_,_,rfl,_⟩:=h
  rfl
 obtain⟨p,dx,b,l,fi,rfl,hp,hb,hl,q⟩:=h
 refine⟨_,(ssC (sIf (tCm oGe (eFl (v_ 0)) (v_ 1)) (ss1 (aaH eI)) ssN)
   (ss1 (aaH (eOp ahV eI (eOp adN (v_ 1) (eFl (v_ 0))))))),?_⟩
 refine⟨_,rfl,p,aF,dx,_,_,rfl,hp,ZZ.a0.cl,ZZ.a4,rfl,_,rfl,_,_,rfl,rfl,_,rfl,ifD (fun c=>?_) (fun c=>?_)⟩
 ·have e:arE b l=0:=by unfold arE;rw[if_pos c]
  rw[e] at q
  exact q
 ·have e:arE b l=1*2^(l-b).toNat:=by unfold arE;rw[if_neg c]
  rw[e] at q
  have:=hl.1.2
  exact⟨_,rfl,_,rfl,p,aF,dx,_,_,rfl,hp,ZZ.a0.cl,ZZ.a4,rfl,_,_,rfl,rfl,_,_,rfl,rfl,⟨by omega,by omega,by decide⟩,q⟩
theorem aiN:DfM P w K mg base aG "__init__" 1 ["self","day"] (aiL K aG):=by
 refine ZZ.cd.dfs aiR (fun vs H Q E h=>?_) (fun f cdv A outer s H vs Q E hr h=>?_)
 ·obtain⟨_,_,_,rfl,_⟩:=h
  rfl
 obtain⟨p,dx,m,rfl,hp,q⟩:=h
 refine⟨_,(ss1 (sFl (v_ 0) (v_ 1))),?_⟩
 exact⟨_,rfl,_,rfl,p,aG,dx,[],rfl,hp,ZZ.a8.cl,ZZ.a9,(by show 0<1000;decide),q⟩
theorem apY:DfM P w K mg base aG "days" 3 ["self","last","first"] (ao3 K aG):=by
 refine ZZ.d1.dfs ap4 (fun vs H Q E h=>?_) (fun f cdv A outer s H vs Q E hr h=>?_)
 ·obtain⟨_,_,_,_,_,rfl,_⟩:=h
  rfl
 obtain⟨p,dx,d,l,fi,rfl,hp,ok,q⟩:=h
 refine⟨_,(ssC (sIf (tCm oGt (eFl (v_ 0)) (v_ 1)) (ss1 (aaH eI)) ssN)
   (ss1 (aaH (eOp ahV eI (eD (aeD ZZ) hr (aC (eFl (v_ 0)) (aC (v_ 1) (aC (v_ 2) aN)))))))),?_⟩
 refine⟨_,rfl,p,aG,dx,_,_,rfl,hp,ZZ.a8.cl,ZZ.a9,rfl,_,rfl,_,_,rfl,rfl,_,rfl,ifD (fun c=>?_) (fun c=>?_)⟩
 ·have e:asD d l fi=0:=by unfold asD;rw[if_pos c]
  rw[e] at q
  exact q
 ·have e:asD d l fi=1*2^(nw d l fi).toNat:=by unfold asD;rw[if_neg c]
  rw[e] at q
  have hn:=auD ok (by omega)
  exact⟨_,rfl,p,aG,dx,_,_,rfl,hp,ZZ.a8.cl,ZZ.a9,rfl,_,rfl,_,rfl,_,_,_,rfl,_,_,rfl,rfl,⟨by omega,by omega,by decide⟩,q⟩
theorem aiH:DfM P w K mg base aI "days" 3 ["self","last","first"] (ahU K aI):=by
 refine ZZ.ce.dfs aiS (fun vs H Q E h=>?_) (fun f cdv A outer s H vs Q E hr h=>?_)
 ·obtain⟨_,_,_,_,rfl,_⟩:=h
  rfl
 obtain⟨p,dx,l,fi,rfl,hp,ok,q⟩:=h
 refine⟨_,(ss1 (aaH (eOp ahV eI (eD (aeD ZZ) hr (aC (v_ 1) (aC (v_ 1) (aC (v_ 2) aN))))))),?_⟩
 have hn:=auD ok (a8 _)
 exact⟨_,rfl,_,rfl,_,rfl,_,_,_,rfl,_,_,rfl,rfl,⟨by omega,by omega,by decide⟩,q⟩
theorem aeO:DfM P w K mg base aE "__init__" 1 ["self","mask"] (aeI K aE):=by
 refine ZZ.b1.dfs aeH (fun vs H Q E h=>?_) (fun f cdv A outer s H vs Q E hr h=>?_)
 ·obtain⟨_,_,_,rfl,_⟩:=h
  rfl
 obtain⟨p,dx,m,rfl,hp,q⟩:=h
 refine⟨_,(ss1 (sFl (v_ 0) (v_ 1))),?_⟩
 exact⟨_,rfl,_,rfl,p,aE,dx,[],rfl,hp,ZZ.au.cl,ZZ.ba,(by show 0<1000;decide),q⟩
theorem aiD:DfM P w K mg base aE "days" 2 ["self","last","first"] (aiP K aE):=by
 refine ZZ.cf.dfs sc_Weekdays_days (fun vs H Q E h=>?_) (fun f cdv A outer s H vs Q E hr h=>?_)
 ·obtain⟨_,_,_,_,_,rfl,_⟩:=h
  rfl
 obtain⟨p,dx,m,l,fi,rfl,hp,hm,⟨hl,hf⟩,q⟩:=h
 refine⟨_,(ssC (aaP 3 eI sc_Weekdays_days.nd)
   (ssC (ah9 (iR1 ZZ.ai (aC eI aN)) (gN 4 sc_Weekdays_days.nd) (ss1 (aaP 3 (eOp oOr (v_ 3) (eOp ahV (eFl (v_ 0)) (eOp amQ eI (v_ 4)))) sc_Weekdays_days.nd)) PassesOwn.never)
   (ss1 (aaH (eOp aoS (eOp ahV (eOp azY (v_ 3) (v_ 2)) eI) (eD (aeG ZZ) hr (aC (v_ 1) aN))))))),?_⟩
 have hb:=aAU m (aHH hm.1 hm.2)
 refine⟨_,rfl,by decide,by decide,an2 (fun i σ H2=>H2=H/\∃u:Option V,σ=[some (.ref p),some (.int l),some (.int fi),some (.int (wks m i)),u]) ⟨rfl,_,rfl⟩ ?_ ?_⟩
 ·rintro i σ H2 hi ⟨rfl,u,rfl⟩
  have hi':i<6:=hi
  exact⟨_,rfl,_,rfl,p,aE,dx,_,_,rfl,hp,ZZ.au.cl,ZZ.ba,rfl,_,rfl,_,_,rfl,rfl,.inl ⟨by decide,by decide⟩,_,_,rfl,rfl,⟨by omega,by omega,(by show m.natAbs<2^64;omega)⟩,_,_,rfl,rfl,rfl,_,rfl⟩
 ·rintro σ H2 ⟨rfl,u,rfl⟩
  exact⟨_,rfl,_,rfl,_,_,rfl,rfl,hf.1,_,_,rfl,rfl,⟨by decide,by decide,hb.2 fi (at3 hf.1 hf.2)⟩,_,rfl,_,rfl,hl,_,_,rfl,rfl,q⟩
theorem ajY:DfM P w K mg base aB "__init__" 1 ["self","weekday","many"] (akJ K aB):=by
 refine ZZ.cp.dfs akH (fun vs H Q E h=>?_) (fun f cdv A outer s H vs Q E hr h=>?_)
 ·obtain⟨_,_,_,_,rfl,_⟩:=h
  rfl
 obtain⟨p,dx,wd,m,rfl,hp,q⟩:=h
 refine⟨_,(ssC (sFl (v_ 0) (v_ 1))
   (ss1 (sFl (v_ 0) (v_ 2)))),?_⟩
 exact⟨_,rfl,_,rfl,p,aB,dx,[],rfl,hp,ZZ.bb.cl,ZZ.bj,(by show 0<1000;decide),_,rfl,_,rfl,p,aB,dx,_,rfl,aaA,ZZ.bb.cl,ZZ.bt,(by show 1<1000;decide),q⟩
theorem ar3:DfM P w K mg base aB "days" 2 ["self","last","first"] (aq4 K aB):=by
 refine ZZ.ek.dfs sc_Nth_days (fun vs H Q E h=>?_) (fun f cdv A outer s H vs Q E hr h=>?_)
 ·obtain⟨_,_,_,_,_,_,rfl,_⟩:=h
  rfl
 obtain⟨p,dx,wd,m,l,fi,rfl,hp,hw,hm,⟨hl,hf⟩,q⟩:=h
 refine⟨_,(ssC (aaP 3 (eOp ab1 (eD (apP ZZ) hr (aC (eFl (v_ 0)) (aC (v_ 2) aN))) (eOp amQ eI (eOp adN (eFl (v_ 0)) eI))) sc_Nth_days.nd)
   (ssC (sIf (tCm oGt (v_ 3) (v_ 1)) (ss1 (aaH eI)) ssN)
   (ss1 (aaH (eOp ahV eI (v_ 3)))))),?_⟩
 have hn:=aAP l (aA3 hl.1 hl.2) fi (at3 hf.1 hf.2) wd (at3 hw.1 hw.2) m (in_m hm.1 hm.2)
 refine⟨_,rfl,p,aB,dx,_,_,rfl,hp,ZZ.bb.cl,ZZ.bj,aFI _ _,_,rfl,_,_,rfl,_,rfl,p,aB,dx,_,_,rfl,hp,ZZ.bb.cl,ZZ.bt,aDF _ _,_,_,rfl,rfl,_,_,rfl,rfl,.inl ⟨by decide,by decide⟩,_,_,rfl,rfl,?_⟩
 refine⟨_,rfl,_,rfl,_,_,rfl,rfl,_,rfl,ifD (fun c=>?_) (fun c=>?_)⟩
 ·have e:apW wd m l fi=0:=by unfold apW;rw[if_pos (show l<agV wd m fi from c)]
  rw[e] at q
  exact q
 ·have e:apW wd m l fi=1*2^(agV wd m fi).toNat:=by unfold apW;rw[if_neg (show ¬l<agV wd m fi from c)]
  rw[e] at q
  exact⟨_,rfl,_,_,rfl,rfl,⟨hn.2.2.1,Int.le_trans hn.2.2.2 (by decide),by decide⟩,q⟩
theorem afN:DfM P w K mg base aH "__init__" 1 ["self","weekday"] (afM K aH):=by
 refine ZZ.b5.dfs afO (fun vs H Q E h=>?_) (fun f cdv A outer s H vs Q E hr h=>?_)
 ·obtain⟨_,_,_,rfl,_⟩:=h
  rfl
 obtain⟨p,dx,m,rfl,hp,q⟩:=h
 refine⟨_,(ss1 (sFl (v_ 0) (v_ 1))),?_⟩
 exact⟨_,rfl,_,rfl,p,aH,dx,[],rfl,hp,ZZ.a1.cl,ZZ.a2,(by show 0<1000;decide),q⟩
theorem akC:DfM P w K mg base aH "days" 2 ["self","last","first"] (akK K aH):=by
 refine ZZ.cq.dfs aj0 (fun vs H Q E h=>?_) (fun f cdv A outer s H vs Q E hr h=>?_)
 ·obtain⟨_,_,_,_,_,rfl,_⟩:=h
  rfl
 obtain⟨p,dx,wd,l,fi,rfl,hp,hw,⟨hl,hf⟩,q⟩:=h
 refine⟨_,(ss1 (aaH (eOp ahV eI (eOp adN (v_ 1) (eOp adS (eOp adN (eD (af9 ZZ) hr (aC (v_ 1) (aC (v_ 2) aN))) (eFl (v_ 0))) eI))))),?_⟩
 have hn:=aAO l (aA3 hl.1 hl.2) fi (at3 hf.1 hf.2) wd (at3 hw.1 hw.2)
 exact⟨_,rfl,_,rfl,_,rfl,_,_,rfl,_,rfl,p,aH,dx,_,_,rfl,hp,ZZ.a1.cl,ZZ.a2,rfl,_,_,rfl,rfl,_,_,rfl,rfl,(by show (0:Int)<7;decide),_,_,rfl,rfl,_,_,rfl,rfl,⟨hn.2.1,Int.le_trans hn.2.2 (by decide),by decide⟩,q⟩
theorem arY:Df P w K mg base "any_days" 4 ["marks","last","first"] (aqJ K aD aF aG aI aE aB aH aJ):=by
 refine ZZ.el.dfs sc_any_days (fun vs H Q E h=>?_) (fun f cdv A outer s H vs Q E hr h=>?_)
 ·obtain⟨_,_,_,_,_,rfl,_⟩:=h
  rfl
 obtain⟨b,ps,ks,l,fi,rfl,hB,fM,oM,hlf,q⟩:=h
 refine⟨_,(ssC (aaP 3 eI sc_any_days.nd)
   (ssC (ah9 (iL (v_ 0)) (gN 4 sc_any_days.nd) (ss1 (aaP 3 (eOp oOr (v_ 3) (abS (eMe ZZ.az.cl (ajV ZZ) hr (v_ 4) (aC (v_ 1) (aC (v_ 2) aN))) (abS (eMe ZZ.a0.cl (aqD ZZ) hr (v_ 4) (aC (v_ 1) (aC (v_ 2) aN))) (abS (eMe ZZ.a8.cl (apY ZZ) hr (v_ 4) (aC (v_ 1) (aC (v_ 2) aN))) (abS (eMe ZZ.bs.cl (aiH ZZ) hr (v_ 4) (aC (v_ 1) (aC (v_ 2) aN))) (abS (eMe ZZ.au.cl (aiD ZZ) hr (v_ 4) (aC (v_ 1) (aC (v_ 2) aN))) (abS (eMe ZZ.bb.cl (ar3 ZZ) hr (v_ 4) (aC (v_ 1) (aC (v_ 2) aN))) (abS (eMe ZZ.a1.cl (akC ZZ) hr (v_ 4) (aC (v_ 1) (aC (v_ 2) aN))) (eMe ZZ.fd.cl (apX ZZ) hr (v_ 4) (aC (v_ 1) (aC (v_ 2) aN))))))))))) sc_any_days.nd)) PassesOwn.never)
   (ss1 (aaH (v_ 3))))),?_⟩
 refine⟨_,rfl,b,rfl,⟨_,hB⟩,aeV (K:=K) (a:=b) (xs:=ps.map V.ref) (fun i σ H2=>H2=H/\∃u4:Option V,σ=[some (.ref b),some (.int l),some (.int fi),some (.int (orK (ks.take i) l fi)),u4]) ⟨rfl,_,rfl⟩ (fun i σ H2 _ hP=>by rw[hP.1];exact hB) ?turn ?done⟩
 case done=>
  rintro σ H2 ⟨rfl,u4,rfl⟩
  have el:(ps.map V.ref).length=ks.length:=by rw[aU];exact Paired.length fM
  rw[el,bS]
  exact⟨_,rfl,q⟩
 case turn=>
  rintro i x σ H2 hx ⟨rfl,u4,rfl⟩
  rw[bE] at hx
  cases ez:ps[i]? with
  |none=>rw[ez] at hx;cases hx
  |some p=>
   rw[ez] at hx
   obtain rfl:V.ref p=x:=bA hx
   obtain⟨k,ek,hk⟩:=Ft.get fM ez
   have hok:=oM k (bW ek)
   have et:orK (ks.take (i+1)) l fi=Builtin.bitOr (orK (ks.take i) l fi) (k.due l fi):=by
    rw[bK,ek]
    exact awW _ _ _ _
   rw[et]
   cases k with
   |num m=>
    obtain⟨dx,hp⟩:=hk
    exact⟨_,rfl,(.inl ⟨_,rfl,p,dx,_,rfl,hp,rfl,_,rfl,_,rfl,p,dx,m,l,fi,rfl,hp,hlf,_,_,rfl,rfl,rfl,_,rfl⟩)⟩
   |lst b=>
    obtain⟨dx,hp⟩:=hk
    exact⟨_,rfl,(.inr (.inl ⟨_,rfl,p,dx,_,rfl,hp,rfl,_,rfl,_,rfl,p,dx,b,l,fi,rfl,hp,hok,hlf,_,_,rfl,rfl,rfl,_,rfl⟩))⟩
   |nea d=>
    obtain⟨dx,hp⟩:=hk
    exact⟨_,rfl,(.inr (.inr (.inl ⟨_,rfl,p,dx,_,rfl,hp,rfl,_,rfl,_,rfl,p,dx,d,l,fi,rfl,hp,⟨hok,hlf⟩,_,_,rfl,rfl,rfl,_,rfl⟩)))⟩
   |wrk=>
    obtain⟨dx,hp⟩:=hk
    exact⟨_,rfl,(.inr (.inr (.inr (.inl ⟨_,rfl,p,dx,_,rfl,hp,rfl,_,rfl,_,rfl,p,dx,l,fi,rfl,hp,hlf.last,_,_,rfl,rfl,rfl,_,rfl⟩))))⟩
   |wkd m=>
    obtain⟨dx,hp⟩:=hk
    exact⟨_,rfl,(.inr (.inr (.inr (.inr (.inl ⟨_,rfl,p,dx,_,rfl,hp,rfl,_,rfl,_,rfl,p,dx,m,l,fi,rfl,hp,hok,hlf,_,_,rfl,rfl,rfl,_,rfl⟩)))))⟩
   |nth w m=>
    obtain⟨dx,hp⟩:=hk
    exact⟨_,rfl,(.inr (.inr (.inr (.inr (.inr (.inl ⟨_,rfl,p,dx,_,rfl,hp,aBW _ _,_,rfl,_,rfl,p,dx,w,m,l,fi,rfl,hp,hok.1,hok.2,hlf,_,_,rfl,rfl,rfl,_,rfl⟩))))))⟩
   |one w=>
    obtain⟨dx,hp⟩:=hk
    exact⟨_,rfl,(.inr (.inr (.inr (.inr (.inr (.inr (.inl ⟨_,rfl,p,dx,_,rfl,hp,rfl,_,rfl,_,rfl,p,dx,w,l,fi,rfl,hp,hok,hlf,_,_,rfl,rfl,rfl,_,rfl⟩)))))))⟩
   |nil=>
    obtain⟨dx,hp⟩:=hk
    exact⟨_,rfl,(.inr (.inr (.inr (.inr (.inr (.inr (.inr ⟨_,rfl,p,dx,_,rfl,hp,rfl,_,rfl,_,rfl,p,l,fi,rfl,_,_,rfl,rfl,rfl,_,rfl⟩)))))))⟩
theorem aiX:Df P w K mg base "read_day_mark" 4 ["item"] (aiU K aD aF aG aI aE aB aH aJ):=by
 refine ZZ.cg.dfs sc_read_day_mark (fun vs H Q E h=>?_) (fun f cdv A outer s H vs Q E hr h=>?_)
 ·obtain⟨_,rfl,_⟩:=h
  rfl
 obtain⟨t,rfl,hl,q⟩:=h
 refine⟨_,(ssC (sIf (tCm oEq (v_ 0) (eSx [76])) (ss1 (aaH (eMkD ZZ.a0 (adK ZZ) hr))) ssN)
   (ssC (sIf (tCm oEq (v_ 0) (eSx [76,87])) (ss1 (aaH (av7 ZZ.bs ZZ.ea))) ssN)
   (ssC (sIf (tVa (eSwN (v_ 0) (eSx [76,45]))) (ssC (aaP 1 (eD (abH ZZ) hr (aC (eSl slX (v_ 0) (poS eI) poN) (aC eI (aC (eGl (v:=.int 30) ZZ.dw ⟨_,rfl⟩) aN)))) sc_read_day_mark.nd)
   (ss1 (aaH (eIf (tCm aiE (v_ 1) eN) eN (eMk ZZ.a0 (adK ZZ).dfm hr (aC (v_ 1) aN)))))) ssN)
   (ssC (sIf (tVa (eEw (v_ 0) (eSx [87]))) (ssC (aaP 2 (eD (abH ZZ) hr (aC (eSl slX (v_ 0) poN (poS (eUn as4 eI))) (aC eI (aC (eGl (v:=.int 31) ZZ.bu ⟨_,rfl⟩) aN)))) sc_read_day_mark.nd)
   (ss1 (aaH (eIf (tCm aiE (v_ 2) eN) eN (eMk ZZ.a8 (aiN ZZ) hr (aC (v_ 2) aN)))))) ssN)
   (ss1 (aaH eN)))))),?_⟩
 have hz:t.length<=sizeLine:=by rw[dY];omega
 have hc1:=agX t (some 2) none
 have hc2:=agX t none (some (-1))
 refine⟨_,rfl,rfl,_,rfl,ifX (fun c=>?a0) (fun c1=>⟨_,rfl,rfl,_,rfl,ifX (fun c=>?a1) (fun c2=>⟨_,rfl,rfl,t,[76,45],rfl,rfl,_,rfl,ifD (fun c=>?a2) (fun c3=>⟨_,rfl,rfl,t,87,rfl,rfl,_,rfl,ifD (fun c=>?a3) (fun c4=>?a4)⟩)⟩)⟩)⟩
 case a0=>
  have e:adC t=some (.lst 0):=by unfold adC;rw[if_pos c]
  rw[e] at q
  exact fun xo dx nx ndx nex=>⟨xo,dx,0,rfl,aaA,rfl,q _ _ (acW nx ndx) ⟨xo,rfl,dx,aaA⟩⟩
 case a1=>
  have e:adC t=some .wrk:=by unfold adC;rw[if_neg c1,if_pos c]
  rw[e] at q
  exact fun xo dx nx ndx nex=>q _ _ (ab0 nx ndx) ⟨xo,rfl,dx,aaA⟩
 case a2=>
  have e:adC t=(aa6 1 30 (afT t (some 2) none)).map Mk.lst:=by unfold adC;rw[if_neg c1,if_neg c2,if_pos c]
  rw[e] at q
  refine⟨_,rfl,_,rfl,t,rfl,hz,_,1,30,rfl,(by omega),fun H1 s1=>?_⟩
  cases en:aa6 1 30 (afT t (some 2) none) with
  |none=>
   rw[en] at q
   exact⟨_,rfl,rfl,_,rfl,ifT rfl (q _ _ s1 rfl)⟩
  |some b=>
   rw[en] at q
   exact⟨_,rfl,rfl,_,rfl,ifF rfl ⟨_,rfl,fun xo dx nx ndx nex=>⟨xo,dx,_,rfl,aaA,rfl,q _ _ (s1.trans (acW nx ndx)) ⟨xo,rfl,dx,aaA⟩⟩⟩⟩
 case a3=>
  have e:adC t=(aa6 1 31 (afT t none (some (-1)))).map Mk.nea:=by unfold adC;rw[if_neg c1,if_neg c2,if_neg c3,if_pos c]
  rw[e] at q
  refine⟨_,rfl,_,rfl,_,rfl,t,rfl,hz,_,1,31,rfl,(by omega),fun H1 s1=>?_⟩
  cases en:aa6 1 31 (afT t none (some (-1))) with
  |none=>
   rw[en] at q
   exact⟨_,rfl,rfl,_,rfl,ifT rfl (q _ _ s1 rfl)⟩
  |some b=>
   rw[en] at q
   exact⟨_,rfl,rfl,_,rfl,ifF rfl ⟨_,rfl,fun xo dx nx ndx nex=>⟨xo,dx,_,rfl,aaA,rfl,q _ _ (s1.trans (acW nx ndx)) ⟨xo,rfl,dx,aaA⟩⟩⟩⟩
 case a4=>
  have e:adC t=none:=by unfold adC;rw[if_neg c1,if_neg c2,if_neg c3,if_neg c4]
  rw[e] at q
  exact q _ _ (Same.refl H) rfl
theorem aeA:Df P w K mg base "read_weekday" 4 ["text"] (aj2 K):=by
 refine ZZ.cr.dfs sc_read_weekday (fun vs H Q E h=>?_) (fun f cdv A outer s H vs Q E hr h=>?_)
 ·obtain⟨_,rfl,_⟩:=h
  rfl
 obtain⟨t,rfl,hl,q⟩:=h
 refine⟨_,(ssC (aaP 1 (eD (abH ZZ) hr (aC (v_ 0) (aC eI (aC (eGl (v:=.int 7) ZZ.ao ⟨_,rfl⟩) aN)))) sc_read_weekday.nd)
   (ss1 (aaH (eIf (tCm oEq (v_ 1) (eGl (v:=.int 7) ZZ.ao ⟨_,rfl⟩)) (eGl (v:=.int 0) ZZ.b9 ⟨_,rfl⟩) (v_ 1))))),?_⟩
 refine⟨_,rfl,t,0,7,rfl,(by omega),fun H1 s1=>?_⟩
 cases en:aa6 0 7 t with
 |none=>
  have e:wdN t=none:=by unfold wdN;rw[en];rfl
  rw[e] at q
  exact⟨_,rfl,rfl,_,rfl,ifF (d8 fun z=>nomatch z) ⟨_,rfl,q _ s1⟩⟩
 |some n=>
  have e:wdN t=some (if n=7 then 0 else n):=by unfold wdN;rw[en];rfl
  rw[e] at q
  refine⟨_,rfl,rfl,_,rfl,ifI (fun c=>?_) (fun c=>⟨_,rfl,?_⟩)⟩
  ·rw[if_pos c] at q
   exact q _ s1
  ·rw[if_neg c] at q
   exact q _ s1
theorem afH:Df P w K mg base "read_weekday_mark" 5 ["item"] (ae8 K aD aF aG aI aE aB aH aJ):=by
 refine ZZ.b2.dfs sc_read_weekday_mark (fun vs H Q E h=>?_) (fun f cdv A outer s H vs Q E hr h=>?_)
 ·obtain⟨_,rfl,_⟩:=h
  rfl
 obtain⟨t,rfl,hl,q⟩:=h
 refine⟨_,(ssC (sIf (tVa (eEw (v_ 0) (eSx [76]))) (ssC (aaP 1 (eD (aeA ZZ) hr (aC (eSl slX (v_ 0) poN (poS (eUn as4 eI))) aN)) sc_read_weekday_mark.nd)
   (ss1 (aaH (eIf (tCm aiE (v_ 1) eN) eN (eMk ZZ.a1 (afN ZZ) hr (aC (v_ 1) aN)))))) ssN)
   (ssC (aaP 2 (avU (v_ 0) (eSx [35])) sc_read_weekday_mark.nd)
   (ssC (sIf (tCm oNe (eCB apI ZZ.aj PySem.boot_len (aC (v_ 2) aN)) eI) (ss1 (aaH eN)) ssN)
   (ssC (aaP 1 (eD (aeA ZZ) hr (aC (eIx xL (v_ 2) eI) aN)) sc_read_weekday_mark.nd)
   (ssC (aaP 3 (eD (abH ZZ) hr (aC (eIx xL (v_ 2) eI) (aC eI (aC (eGl (v:=.int 5) ZZ.ec ⟨_,rfl⟩) aN)))) sc_read_weekday_mark.nd)
   (ssC (sIf (tW (wOr (tCm aiE (v_ 1) eN) (anM (tCm aiE (v_ 3) eN)))) (ss1 (aaH eN)) ssN)
   (ss1 (aaH (eMk ZZ.bb (ajY ZZ) hr (aC (v_ 1) (aC (v_ 3) aN))))))))))),?_⟩
 have hz:t.length<=sizeLine:=by rw[dY];omega
 have hc2:=agX t none (some (-1))
 have hsl:=ahC 35 t
 have hml:=ab4 35 t
 refine⟨_,rfl,rfl,t,76,rfl,rfl,_,rfl,ifD (fun c=>?a0) (fun c1=>?a1)⟩
 case a0=>
  have e:aoO t=(wdN (afT t none (some (-1)))).map Mk.one:=by unfold aoO;rw[if_pos c]
  rw[e] at q
  refine⟨_,rfl,_,rfl,_,rfl,t,rfl,hz,_,rfl,(by omega),fun H1 s1=>?_⟩
  cases en:wdN (afT t none (some (-1))) with
  |none=>
   rw[en] at q
   exact⟨_,rfl,rfl,_,rfl,ifT rfl (q _ _ s1 rfl)⟩
  |some b=>
   rw[en] at q
   exact⟨_,rfl,rfl,_,rfl,ifF rfl ⟨_,rfl,fun xo dx nx ndx nex=>⟨xo,dx,_,rfl,aaA,rfl,q _ _ (s1.trans (acW nx ndx)) ⟨xo,rfl,dx,aaA⟩⟩⟩⟩
 case a1=>
  refine⟨_,rfl,rfl,t,35,rfl,rfl,(by rw[dY];omega),fun ps hps=>?_⟩
  have s0:=aaB hps (.lst ((spl 35 t).map fun q=>V.str (Tx q)))
  refine⟨_,rfl,ps,_,rfl,.inl (SqL.of aaA),rfl,_,rfl,?_⟩
  have two:(∃a b,spl 35 t=[a,b])∨(∀a b,spl 35 t≠[a,b]):=by
   by_cases z:∃a b,spl 35 t=[a,b]
   ·exact .inl z
   ·exact .inr fun r s e=>z ⟨r,s,e⟩
  rcases two with ⟨a,b,e2⟩ | hno
  ·have e:aoO t=aCP (wdN a) (aa6 1 5 b):=by unfold aoO;rw[if_neg c1,e2]
   rw[e] at q
   have h1:=hml a (by rw[e2];simp)
   have h2:=hml b (by rw[e2];simp)
   rw[e2]
   refine ifF rfl ⟨_,rfl,ps,_,_,_,rfl,rfl,SqL.of aaA,rfl,a,rfl,(by omega),fun H1 s1=>?_⟩
   refine⟨_,rfl,ps,_,_,_,rfl,rfl,SqL.of (s1 _ _ aaA),rfl,b,1,5,rfl,(by omega),fun H2 s2=>?_⟩
   rw[e2] at s0
   cases ew:wdN a with
   |none=>
    rw[ew] at q
    exact⟨_,rfl,rfl,_,rfl,ifT rfl (q _ _ (s0.trans (s1.trans s2)) rfl)⟩
   |some wd=>
    rw[ew] at q
    refine⟨_,rfl,rfl,_,rfl,ifF rfl ⟨_,rfl,rfl,_,rfl,?_⟩⟩
    cases en:aa6 1 5 b with
    |none=>
     rw[en] at q
     exact ifT rfl (q _ _ (s0.trans (s1.trans s2)) rfl)
    |some m=>
     rw[en] at q
     exact ifF rfl ⟨_,rfl,_,rfl,fun xo dx nx ndx nex=>⟨xo,dx,_,_,rfl,aaA,rfl,q _ _ (s0.trans (s1.trans (s2.trans (axH nx ndx)))) ⟨xo,rfl,dx,aaA⟩⟩⟩
  ·have hlen:¬(spl 35 t).length=2:=fun e=>by
    match h:spl 35 t,e with
    |[r,s],_=>exact hno r s h
   have e:aoO t=none:=by
    unfold aoO
    rw[if_neg c1]
    split
    ·rename_i a b h
     exact absurd h (hno a b)
    ·rfl
   rw[e] at q
   refine ifT ?_ (q _ _ s0 rfl)
   rw[d8 fun z=>hlen (by have z:=V.int.inj z;rw[aU] at z;omega)]
   rfl
theorem afY:Df P w K mg base "read_items" 7 ["text","low","high","read_mark"] (anL K aD aF aG aI aE aB aH aJ aS aT):=by
 refine ZZ.dn.dfs sc_read_items (fun vs H Q E h=>?_) (fun f cdv A outer s H vs Q E hr h=>?_)
 ·obtain⟨_,_,_,_,rfl,_⟩:=h
  rfl
 obtain⟨l,lo,hi,wk,rfl,hb,hok,q⟩:=h
 refine⟨_,(ssC (sIf (tW (wOr (tNo (tVa (eCB cIs ZZ.ah PyProof.Rows.boot_isinstance (aC (v_ 0) (aC (eTy ZZ.af PyProof.Rows.boot_str) aN))))) (anM (tCm oGt (eCB azH ZZ.aj PySem.boot_len (aC (v_ 0) aN)) (eGl (v:=.int 300) ZZ.bm ⟨_,rfl⟩))))) (ss1 aqV) ssN)
   (ssC (aaP 4 (avU (v_ 0) (eSx [44])) sc_read_items.nd)
   (ssC (aaP 5 eI sc_read_items.nd)
   (ssC (aaP 6 (aaZ aN) sc_read_items.nd)
   (ssC (ah9 (iE ZZ.as (eSl slL (v_ 4) poN (poS (eGl (v:=.int 40) ZZ.an ⟨_,rfl⟩)))) (gTu (gsC (gN 7 sc_read_items.nd) (gsC (gN 8 sc_read_items.nd) gsN))) (ssC (aaP 9 (eD (ag6 ZZ) hr (aC (v_ 8) (aC (v_ 1) (aC (v_ 2) aN)))) sc_read_items.nd)
   (ss1 (sIf (tCm aiE (v_ 9) eN) (ssC (aaP 10 (abS (eDV ((aiX ZZ).at_ ZZ.bf) hr (v_ 3) (aC (v_ 8) aN)) (eDV ((afH ZZ).at_ ZZ.ay) hr (v_ 3) (aC (v_ 8) aN))) sc_read_items.nd)
   (ssC (sIf (tW (wOr (tCm aiE (v_ 10) eN) (anM (tCm oEq (eCB apI ZZ.aj PySem.boot_len (aC (v_ 6) aN)) (eGl (v:=.int 20) ZZ.de ⟨_,rfl⟩))))) (ss1 aqV) ssN)
   (ss1 (ac9 (aeE (v_ 6) (v_ 10)))))) (ss1 (aaP 5 (eOp oOr (v_ 5) (v_ 9)) sc_read_items.nd))))) PassesOwn.never)
   (ssC (sIf (tCm oGt (eCB apI ZZ.aj PySem.boot_len (aC (v_ 4) aN)) (eGl (v:=.int 40) ZZ.an ⟨_,rfl⟩)) (ss1 aqV) ssN)
   (ss1 (aaH (ab8 (aC (v_ 5) (aC (v_ 6) aN))))))))))),?_⟩
 have hl:=hok.len
 have hml:=ab4 44 l
 refine⟨_,rfl,_,.str,.str,rfl,(by decide),rfl,_,rfl,ifF rfl ⟨_,rfl,l,rfl,(by rw[dY];omega),_,_,rfl,rfl,_,rfl,?_⟩⟩
 rw[d8 (show ¬(300:Int)<((l.length:Nat):Int) by omega)]
 refine abM ⟨_,rfl,rfl,l,44,rfl,rfl,(by rw[dY];omega),fun ps hps=>?_⟩
 have s0:=aaB hps (.lst ((spl 44 l).map fun q=>V.str (Tx q)))
 refine⟨(zL 0),fun mk hmk=>?_⟩
 have s1:=aaB hmk (.lst [])
 refine⟨_,rfl,_,rfl,ps,_,rfl,SqL.of (s1 _ _ aaA),fun pc hpc=>?_⟩
 have ecut:akY ((spl 44 l).map fun q=>V.str (Tx q)) none (some 40)=(spl 44 l).map fun q=>V.str (Tx q):=aB9 (by rw[aU];exact hok.few)
 rw[ecut]
 have hne:pc≠mk:=fun e=>by
  rw[e,aaA] at hpc
  cases hpc
 have s1b:=aaB hpc (.lst ((spl 44 l).map fun q=>V.str (Tx q)))
 refine⟨pc,rfl,⟨_,SqL.of aaA⟩,arO (K:=K) (a:=pc) (xs:=(spl 44 l).map fun q=>V.str (Tx q)) (fun i σ H2=>∃(u1 u2 u3 u4:Option V) (qs:List Addr),σ=[some (.str (Tx l)),some (.int lo),some (.int hi),some (.ref (if wk=true then aT else aS)),some (.ref ps),some (.int (orM (plP lo hi ((spl 44 l).take i)))),some (.ref mk),u1,u2,u3,u4]/\Same (upd H ps (.lst ((spl 44 l).map fun q=>V.str (Tx q)))) H2/\H2 pc=some (.lst ((spl 44 l).map fun q=>V.str (Tx q)))/\H2 mk=some (.lst (qs.map V.ref))/\Ft (MkAt (⟨aD,aF,aG,aI,aE,aB,aH,aJ⟩:Cs) H2) qs (mkP wk lo hi ((spl 44 l).take i))) ⟨_,_,_,_,[],rfl,s1.trans s1b,aaA,s1b _ _ aaA,.nil⟩ (fun i σ H2 _ ⟨_,_,_,_,_,_,_,h,_⟩=>SqL.of h) ?turn ?done⟩
 case turn=>
  rintro i x σ H2 T hx ⟨u1,u2,u3,u4,qs,rfl,s2,h2c,h2m,hq⟩ hT
  rw[bE] at hx
  cases ew:(spl 44 l)[i]? with
  |none=>rw[ew] at hx;cases hx
  |some w0=>
   rw[ew] at hx
   obtain rfl:V.str (Tx w0)=x:=bA hx
   have hw:=hml w0 (bW ew)
   refine⟨T,_,rfl,SqT.of aaA,rfl,_,_,rfl,_,_,rfl,rfl,?_⟩
   refine⟨_,rfl,_,rfl,_,rfl,w0,lo,hi,rfl,(by omega),hb,fun H3 s3=>?_⟩
   cases em:aaI lo hi w0 with
   |some m=>
    have et:(spl 44 l).take (i+1)=(spl 44 l).take i++[w0]:=by rw[bK,ew];rfl
    have s23:=(aaB hT _).trans s3
    refine⟨_,rfl,rfl,_,rfl,ifF rfl ⟨_,rfl,_,rfl,_,_,rfl,rfl,?_⟩⟩
    exact⟨_,_,_,_,qs,by rw[et,aAF em,alY];rfl,s2.trans s23,s23 _ _ h2c,s23 _ _ h2m,by rw[et,aDY em];exact hq.keepM s23.keep⟩
   |none=>
    cases wk with
    |false=>
     have hso:(rdM false w0).isSome=true:=by
      rcases hok.all w0 (bW ew) with h | h
      ·rw[em] at h;cases h
      ·exact h
     obtain⟨k,ek⟩:=dD.mp hso
     have ek':adC w0=some k:=ek
     refine⟨_,rfl,rfl,_,rfl,ifT rfl ?_⟩
     refine .inl ⟨_,rfl,rfl,_,rfl,w0,rfl,(by omega),fun v H4 s4 hv=>?_⟩
     rw[ek'] at hv
     obtain⟨x,rfl,hx⟩:=hv
     have s24:=(aaB hT _).trans (s3.trans s4)
     have hq4:=hq.keepM s24.keep
     have lq:qs.length=(mkP false lo hi ((spl 44 l).take i)).length:=Paired.length hq
     have l1:=asM false lo hi (spl 44 l) (i+1)
     have et:(spl 44 l).take (i+1)=(spl 44 l).take i++[w0]:=by rw[bK,ew];rfl
     rw[et,akM em ek,aW,b8] at l1
     have hm20:=hok.most
     refine⟨_,rfl,rfl,_,rfl,ifF rfl ⟨_,rfl,mk,_,rfl,.inl (SqL.of (s24 _ _ h2m)),rfl,_,rfl,?_⟩⟩
     refine ifI (fun c=>?_) (fun c=>?_)
     ·rw[aU] at c
      omega
     refine⟨_,rfl,.inl ⟨rfl,_,SqL.of (s24 _ _ h2m)⟩,_,rfl,mk,_,_,rfl,rfl,s24 _ _ h2m,(by rw[aU,dY];omega),?_⟩
     have kp:=ag9 (l':=qs.map V.ref++[.ref x]) (s24 _ _ h2m)
     exact⟨_,_,_,_,qs++[x],by rw[et,ayQ em];rfl,ab2 hmk (s2.trans s24),by rw[aaE hne];exact s24 _ _ h2c,by rw[aZ];exact aaA,by rw[et,akM em ek];exact Ft.app (hq4.keepM kp) (.cons (hx.keep kp) .nil)⟩
    |true=>
     have hso:(rdM true w0).isSome=true:=by
      rcases hok.all w0 (bW ew) with h | h
      ·rw[em] at h;cases h
      ·exact h
     obtain⟨k,ek⟩:=dD.mp hso
     have ek':aoO w0=some k:=ek
     refine⟨_,rfl,rfl,_,rfl,ifT rfl ?_⟩
     refine .inr ⟨_,rfl,rfl,_,rfl,w0,rfl,(by omega),fun v H4 s4 hv=>?_⟩
     rw[ek'] at hv
     obtain⟨x,rfl,hx⟩:=hv
     have s24:=(aaB hT _).trans (s3.trans s4)
     have hq4:=hq.keepM s24.keep
     have lq:qs.length=(mkP true lo hi ((spl 44 l).take i)).length:=Paired.length hq
     have l1:=asM true lo hi (spl 44 l) (i+1)
     have et:(spl 44 l).take (i+1)=(spl 44 l).take i++[w0]:=by rw[bK,ew];rfl
     rw[et,akM em ek,aW,b8] at l1
     have hm20:=hok.most
     refine⟨_,rfl,rfl,_,rfl,ifF rfl ⟨_,rfl,mk,_,rfl,.inl (SqL.of (s24 _ _ h2m)),rfl,_,rfl,?_⟩⟩
     refine ifI (fun c=>?_) (fun c=>?_)
     ·rw[aU] at c
      omega
     refine⟨_,rfl,.inl ⟨rfl,_,SqL.of (s24 _ _ h2m)⟩,_,rfl,mk,_,_,rfl,rfl,s24 _ _ h2m,(by rw[aU,dY];omega),?_⟩
     have kp:=ag9 (l':=qs.map V.ref++[.ref x]) (s24 _ _ h2m)
     exact⟨_,_,_,_,qs++[x],by rw[et,ayQ em];rfl,ab2 hmk (s2.trans s24),by rw[aaE hne];exact s24 _ _ h2c,by rw[aZ];exact aaA,by rw[et,akM em ek];exact Ft.app (hq4.keepM kp) (.cons (hx.keep kp) .nil)⟩
 case done=>
  rintro σ H2 ⟨u1,u2,u3,u4,qs,rfl,s2,h2c,h2m,hq⟩
  refine⟨_,rfl,ps,_,rfl,.inl (SqL.of (s2 _ _ aaA)),_,_,rfl,rfl,_,rfl,?_⟩
  have hfew:=hok.few
  rw[d8 (show ¬(40:Int)<((((spl 44 l).map fun q=>V.str (Tx q)).length:Nat):Int) by rw[aU];omega)]
  rw[aU,bS] at hq ⊢
  refine abM ⟨_,rfl,_,rfl,(zL 2),fun p hp=>?_⟩
  have s3:=aaB hp (.tup [.int (orM (plP lo hi (spl 44 l))),.ref mk])
  exact q p mk qs _ (none_of s0 hmk) (s0.trans (s2.trans s3)) aaA (s3 _ _ h2m) (hq.keepM s3.keep)
theorem ao9:Df P w K mg base "read_days" 8 ["text"] (aqA K aD aF aG aI aE aB aH aJ):=by
 refine ZZ.d2.dfs sc_read_days (fun vs H Q E h=>?_) (fun f cdv A outer s H vs Q E hr h=>?_)
 ·obtain⟨_,rfl,_⟩:=h
  rfl
 obtain⟨l,rfl,hok,q1,q2⟩:=h
 refine⟨_,(ssC (aaP 1 (eD (afY ZZ) hr (aC (v_ 0) (aC eI (aC (eGl (v:=.int 31) ZZ.bu ⟨_,rfl⟩) (aC (eGl (v:=.ref aS) ZZ.bf rfl) aN))))) sc_read_days.nd)
   (ssC (sIf (tCm oEq (v_ 0) (eSx [42])) (ss1 (aaH eN)) ssN)
   (ssC (sIf (tCm oEq (eIx xT (v_ 1) eI) eI) (ss1 (aaH (eIx xT (v_ 1) eI))) ssN)
   (ss1 (aaH (eOp aLL (aaZ (aC (eMk ZZ.az (afR ZZ) hr (aC (eIx xT (v_ 1) eI) aN)) aN)) (eIx xT (v_ 1) eI))))))),?_⟩
 refine⟨_,rfl,l,1,31,false,rfl,⟨by decide,by decide,by decide⟩,hok,fun p m qs H1 hmn s1 hp hm hq=>?_⟩
 have lq:qs.length<=20:=by
  have:=Paired.length hq
  have:=hok.most
  omega
 refine⟨_,rfl,rfl,_,rfl,ifX (fun c=>q1 c _ s1) (fun c=>?_)⟩
 have q2:=q2 c
 unfold amF at q2
 generalize mkP false 1 31 (spl 44 l)=ms at hq q2
 generalize orM (plP 1 31 (spl 44 l))=M at hp q2
 refine⟨_,rfl,p,_,_,_,rfl,rfl,SqT.of hp,rfl,rfl,_,rfl,ifI (fun c0=>⟨_,rfl,p,_,_,_,rfl,rfl,SqT.of hp,rfl,q2 m qs _ hmn s1 hm ?_⟩) (fun c0=>?_)⟩
 ·have e:af6 false M=[]:=by unfold af6;rw[if_pos c0]
  rw[e]
  exact hq
 have e:af6 false M=[.num M]:=by unfold af6;rw[if_neg c0];rfl
 rw[e] at q2
 refine⟨_,rfl,p,_,_,_,rfl,rfl,SqT.of hp,rfl,fun xo dx nx ndx nex=>⟨xo,dx,_,rfl,aaA,rfl,(zL 1),fun l1 hl1=>?_⟩⟩
 have n1:Same H1 (upd (upd (upd H1 dx (.own xo)) xo (.ins aD dx [])) xo (.ins aD dx [("mask",.int M)])):=acW nx ndx
 have n2:=n1.trans (aaB hl1 (.lst [.ref xo]))
 refine⟨_,rfl,p,_,_,_,rfl,rfl,SqT.of (n2 _ _ hp),rfl,l1,m,_,_,rfl,rfl,aaA,n2 _ _ hm,(by rw[aU,dY];show 1+_<=_;omega),fun l2 hl2=>?_⟩
 have n3:=n2.trans (aaB hl2 (.lst ([.ref xo]++qs.map V.ref)))
 exact q2 l2 (xo::qs) _ (none_of (s1.trans n2) hl2) (s1.trans n3) aaA (.cons ⟨dx,(aaB hl2 _) _ _ ((aaB hl1 _) _ _ aaA)⟩ (hq.keepM n3.keep))
theorem ah2:Df P w K mg base "read_weekdays" 8 ["text"] (ah4 K aD aF aG aI aE aB aH aJ):=by
 refine ZZ.ch.dfs sc_read_weekdays (fun vs H Q E h=>?_) (fun f cdv A outer s H vs Q E hr h=>?_)
 ·obtain⟨_,rfl,_⟩:=h
  rfl
 obtain⟨l,rfl,hok,q1,q2⟩:=h
 refine⟨_,(ssC (aaP 1 (eD (afY ZZ) hr (aC (v_ 0) (aC eI (aC (eGl (v:=.int 7) ZZ.ao ⟨_,rfl⟩) (aC (eGl (v:=.ref aT) ZZ.ay rfl) aN))))) sc_read_weekdays.nd)
   (ssC (sIf (tCm oEq (v_ 0) (eSx [42])) (ss1 (aaH eN)) ssN)
   (ssC (sIf (tCm oEq (eIx xT (v_ 1) eI) eI) (ss1 (aaH (eIx xT (v_ 1) eI))) ssN)
   (ssC (aaP 2 (eOp aoS (eOp oOr (eIx xT (v_ 1) eI) (eOp azY (eIx xT (v_ 1) eI) (eGl (v:=.int 7) ZZ.ao ⟨_,rfl⟩))) (eGl (v:=.int 127) ZZ.ck ⟨_,rfl⟩)) sc_read_weekdays.nd)
   (ss1 (aaH (eOp aLL (aaZ (aC (eMk ZZ.au (aeO ZZ) hr (aC (v_ 2) aN)) aN)) (eIx xT (v_ 1) eI)))))))),?_⟩
 refine⟨_,rfl,l,0,7,true,rfl,⟨by decide,by decide,by decide⟩,hok,fun p m qs H1 hmn s1 hp hm hq=>?_⟩
 have lq:qs.length<=20:=by
  have:=Paired.length hq
  have:=hok.most
  omega
 refine⟨_,rfl,rfl,_,rfl,ifX (fun c=>q1 c _ s1) (fun c=>?_)⟩
 have q2:=q2 c
 unfold amF at q2
 generalize mkP true 0 7 (spl 44 l)=ms at hq q2
 generalize orM (plP 0 7 (spl 44 l))=M at hp q2
 refine⟨_,rfl,p,_,_,_,rfl,rfl,SqT.of hp,rfl,rfl,_,rfl,ifI (fun c0=>⟨_,rfl,p,_,_,_,rfl,rfl,SqT.of hp,rfl,q2 m qs _ hmn s1 hm ?_⟩) (fun c0=>?_)⟩
 ·have e:af6 true M=[]:=by unfold af6;rw[if_pos c0]
  rw[e]
  exact hq
 have e:af6 true M=[.wkd (wk7 M)]:=by unfold af6;rw[if_neg c0];rfl
 rw[e] at q2
 refine⟨_,rfl,p,_,_,_,rfl,rfl,SqT.of hp,rfl,_,rfl,p,_,_,_,rfl,rfl,SqT.of hp,rfl,_,_,rfl,rfl,(by show (0:Int)<=7;decide),_,_,rfl,rfl,_,_,rfl,rfl,?_⟩
 refine⟨_,rfl,fun xo dx nx ndx nex=>⟨xo,dx,_,rfl,aaA,rfl,(zL 1),fun l1 hl1=>?_⟩⟩
 have n1:Same H1 (upd (upd (upd H1 dx (.own xo)) xo (.ins aE dx [])) xo (.ins aE dx [("mask",.int (wk7 M))])):=acW nx ndx
 have n2:=n1.trans (aaB hl1 (.lst [.ref xo]))
 refine⟨_,rfl,p,_,_,_,rfl,rfl,SqT.of (n2 _ _ hp),rfl,l1,m,_,_,rfl,rfl,aaA,n2 _ _ hm,(by rw[aU,dY];show 1+_<=_;omega),fun l2 hl2=>?_⟩
 have n3:=n2.trans (aaB hl2 (.lst ([.ref xo]++qs.map V.ref)))
 exact q2 l2 (xo::qs) _ (none_of (s1.trans n2) hl2) (s1.trans n3) aaA (.cons ⟨dx,(aaB hl2 _) _ _ ((aaB hl1 _) _ _ aaA)⟩ (hq.keepM n3.keep))
theorem asB:Df P w K mg base "times_of" 3 ["hours","minutes"] (ar9 K):=by
 refine ZZ.em.dfs sc_times_of (fun vs H Q E h=>?_) (fun f cdv A outer s H vs Q E hr h=>?_)
 ·obtain⟨_,_,rfl,_⟩:=h
  rfl
 obtain⟨h,m,rfl,hh,hm,q⟩:=h
 refine⟨_,(ssC (aaP 2 eI sc_times_of.nd)
   (ssC (ah9 (iL (eD (anN ZZ) hr (aC (v_ 0) aN))) (gN 3 sc_times_of.nd) (ss1 (aaP 2 (eOp oOr (v_ 2) (eOp ahV (v_ 1) (eOp amQ (eGl (v:=.int 60) ZZ.cl ⟨_,rfl⟩) (v_ 3)))) sc_times_of.nd)) PassesOwn.never)
   (ss1 (aaH (v_ 2))))),?_⟩
 have bh:=ao0 hh.1 hh.2
 have bm:=ao0 hm.1 hm.2
 refine⟨_,rfl,h,rfl,⟨hh.1,by omega⟩,fun p H1 s1 h1=>⟨p,rfl,⟨_,SqL.of h1⟩,aeV (K:=K) (a:=p) (xs:=(aBG h).map V.int) (fun i σ H2=>∃(t:Int) (v3:Option V),σ=[some (.int h),some (.int m),some (.int t),v3]/\abK t/\Same H1 H2) ⟨_,_,rfl,akN,Same.refl _⟩ (fun i σ H2 _ ⟨_,_,_,_,s2⟩=>SqL.of (s2 _ _ h1)) ?turn ?done⟩⟩
 case done=>
  rintro σ H2 ⟨t,v3,rfl,ht,s2⟩
  exact⟨_,rfl,q t H2 ht (s1.trans s2)⟩
 case turn=>
  rintro i x σ H2 hx ⟨t,v3,rfl,ht,s2⟩
  rw[bE] at hx
  cases ez:(aBG h)[i]? with
  |none=>rw[ez] at hx;cases hx
  |some z=>
   rw[ez] at hx
   obtain rfl:V.int z=x:=bA hx
   have hz:=bW ez
   rw[az1 hh.1 hh.2] at hz
   obtain⟨n,hn,_,rfl⟩:=flt_mem.mp hz
   refine⟨_,rfl,_,rfl,_,rfl,_,_,rfl,rfl,.inl ⟨by decide,by decide⟩,_,_,rfl,rfl,⟨?_,?_,?_⟩,_,_,rfl,rfl,?_⟩
   ·omega
   ·omega
   ·omega
   ·exact⟨_,_,rfl,aI0 ht hm (by omega) (by omega),s2⟩
theorem atR:Df P w K mg base "days_by" 5 ["days","weekdays","last","first"] (atC K aD aF aG aI aE aB aH aJ):=by
 refine ZZ.e0.dfs sc_days_by (fun vs H Q E h=>?_) (fun f cdv A outer s H vs Q E hr h=>?_)
 ·obtain⟨_,_,_,_,_,_,rfl,_⟩:=h
  rfl
 obtain⟨dv,wv,kd,kw,l,fi,rfl,hd,hw,hlf,q⟩:=h
 refine⟨_,(ssC (sIf (tW (aEV (tCm aiE (v_ 0) eN) (aw6 (tCm aiE (v_ 1) eN)))) (ss1 (aaH (eD (aeG ZZ) hr (aC (v_ 2) aN)))) ssN)
   (ssC (aaP 4 eI sc_days_by.nd)
   (ssC (ah9 (iT (ab8 (aC (v_ 0) (aC (v_ 1) aN)))) (gN 5 sc_days_by.nd) (ss1 (sIf (tCm aPE (v_ 5) eN) (ss1 (aaP 4 (eOp oOr (v_ 4) (eD (arY ZZ) hr (aC (v_ 5) (aC (v_ 2) (aC (v_ 3) aN))))) sc_days_by.nd)) ssN)) PassesOwn.never)
   (ss1 (aaH (v_ 4)))))),?_⟩
 have loop:kd.isNone=false∨kw.isNone=false->aoC kd kw l fi=orO kw (orO kd 0 l fi) l fi:=fun h=>by
  unfold aoC
  rw[if_neg]
  rintro⟨h1,h2⟩
  rcases h with h | h
  ·rw[h] at h1;cases h1
  ·rw[h] at h2;cases h2
 cases kd with
 |none=>
  have ed:dv=.non:=hd
  subst ed
  cases kw with
  |none=>
   have ew:wv=.non:=hw
   subst ew
   refine⟨_,rfl,rfl,_,rfl,?_⟩
   show if decide (V.non=V.non)=true then _ else _
   rw[d6 rfl]
   refine ab6 ⟨_,rfl,rfl,_,rfl,?_⟩
   show if decide (V.non=V.non)=true then _ else _
   rw[d6 rfl]
   exact ab6 ⟨_,rfl,l,rfl,hlf.1,q H (Same.refl _)⟩
  |some kw=>
   rw[loop (.inr rfl)] at q
   refine⟨_,rfl,rfl,_,rfl,?_⟩
   show if decide (V.non=V.non)=true then _ else _
   rw[d6 rfl]
   obtain⟨pw,qw,rfl,lw,fw,ow⟩:=hw
   refine ab6 ⟨_,rfl,rfl,_,rfl,abM ?_⟩
   refine⟨_,rfl,_,rfl,(zL 2),fun tt ht=>⟨tt,rfl,⟨_,SqT.of aaA⟩,ahG (K:=K) (a:=tt) (xs:=[V.non,(V.ref pw)]) (fun i σ H2=>∃v5:Option V,σ=[some V.non,some (V.ref pw),some (.int l),some (.int fi),some (.int (match i with | 0=>0 | 1=>orO none 0 l fi | _=>orO (some kw) (orO none 0 l fi) l fi)),v5]/\Same (upd H tt (.tup [V.non,(V.ref pw)])) H2) ⟨_,rfl,Same.refl _⟩ (fun i σ H2 _ ⟨_,_,s2⟩=>SqT.of (s2 _ _ aaA)) ?turn ?done⟩⟩
   case done=>
    rintro σ H2 ⟨v5,rfl,s2⟩
    exact⟨_,rfl,q H2 ((aaB ht _).trans s2)⟩
   case turn=>
    rintro i x σ H2 hx ⟨v5,rfl,s2⟩
    have sA:=(aaB ht (.tup [V.non,(V.ref pw)])).trans s2
    match i,hx with
    |0,hx=>
     cases hx
     refine⟨_,rfl,rfl,_,rfl,?_⟩
     show if (!decide (V.non=V.non))=true then _ else _
     rw[d6 rfl]
     exact abM ⟨_,rfl,s2⟩
    |1,hx=>
     cases hx
     exact⟨_,rfl,rfl,_,rfl,ab6 ⟨_,rfl,_,rfl,_,rfl,_,rfl,pw,qw,kw,l,fi,rfl,SqL.of (sA _ _ lw),fw.keepM sA.keep,ow,hlf,_,_,rfl,rfl,⟨_,rfl,s2⟩⟩⟩
    |i+2,hx=>cases hx
 |some kd=>
  rw[loop (.inl rfl)] at q
  obtain⟨pd,qd,rfl,ld,fd,od⟩:=hd
  refine⟨_,rfl,rfl,_,rfl,abM ?_⟩
  cases kw with
  |none=>
   have ew:wv=.non:=hw
   subst ew
   refine⟨_,rfl,_,rfl,(zL 2),fun tt ht=>⟨tt,rfl,⟨_,SqT.of aaA⟩,ahG (K:=K) (a:=tt) (xs:=[(V.ref pd),V.non]) (fun i σ H2=>∃v5:Option V,σ=[some (V.ref pd),some V.non,some (.int l),some (.int fi),some (.int (match i with | 0=>0 | 1=>orO (some kd) 0 l fi | _=>orO none (orO (some kd) 0 l fi) l fi)),v5]/\Same (upd H tt (.tup [(V.ref pd),V.non])) H2) ⟨_,rfl,Same.refl _⟩ (fun i σ H2 _ ⟨_,_,s2⟩=>SqT.of (s2 _ _ aaA)) ?turn ?done⟩⟩
   case done=>
    rintro σ H2 ⟨v5,rfl,s2⟩
    exact⟨_,rfl,q H2 ((aaB ht _).trans s2)⟩
   case turn=>
    rintro i x σ H2 hx ⟨v5,rfl,s2⟩
    have sA:=(aaB ht (.tup [(V.ref pd),V.non])).trans s2
    match i,hx with
    |0,hx=>
     cases hx
     exact⟨_,rfl,rfl,_,rfl,ab6 ⟨_,rfl,_,rfl,_,rfl,_,rfl,pd,qd,kd,l,fi,rfl,SqL.of (sA _ _ ld),fd.keepM sA.keep,od,hlf,_,_,rfl,rfl,⟨_,rfl,s2⟩⟩⟩
    |1,hx=>
     cases hx
     refine⟨_,rfl,rfl,_,rfl,?_⟩
     show if (!decide (V.non=V.non))=true then _ else _
     rw[d6 rfl]
     exact abM ⟨_,rfl,s2⟩
    |i+2,hx=>cases hx
  |some kw=>
   obtain⟨pw,qw,rfl,lw,fw,ow⟩:=hw
   refine⟨_,rfl,_,rfl,(zL 2),fun tt ht=>⟨tt,rfl,⟨_,SqT.of aaA⟩,ahG (K:=K) (a:=tt) (xs:=[(V.ref pd),(V.ref pw)]) (fun i σ H2=>∃v5:Option V,σ=[some (V.ref pd),some (V.ref pw),some (.int l),some (.int fi),some (.int (match i with | 0=>0 | 1=>orO (some kd) 0 l fi | _=>orO (some kw) (orO (some kd) 0 l fi) l fi)),v5]/\Same (upd H tt (.tup [(V.ref pd),(V.ref pw)])) H2) ⟨_,rfl,Same.refl _⟩ (fun i σ H2 _ ⟨_,_,s2⟩=>SqT.of (s2 _ _ aaA)) ?turn ?done⟩⟩
   case done=>
    rintro σ H2 ⟨v5,rfl,s2⟩
    exact⟨_,rfl,q H2 ((aaB ht _).trans s2)⟩
   case turn=>
    rintro i x σ H2 hx ⟨v5,rfl,s2⟩
    have sA:=(aaB ht (.tup [(V.ref pd),(V.ref pw)])).trans s2
    match i,hx with
    |0,hx=>
     cases hx
     exact⟨_,rfl,rfl,_,rfl,ab6 ⟨_,rfl,_,rfl,_,rfl,_,rfl,pd,qd,kd,l,fi,rfl,SqL.of (sA _ _ ld),fd.keepM sA.keep,od,hlf,_,_,rfl,rfl,⟨_,rfl,s2⟩⟩⟩
    |1,hx=>
     cases hx
     exact⟨_,rfl,rfl,_,rfl,ab6 ⟨_,rfl,_,rfl,_,rfl,_,rfl,pw,qw,kw,l,fi,rfl,SqL.of (sA _ _ lw),fw.keepM sA.keep,ow,hlf,_,_,rfl,rfl,⟨_,rfl,s2⟩⟩⟩
    |i+2,hx=>cases hx
theorem akF:DfM P w K mg base aA "__init__" 4 ["self","fields"] (aj9 K aA):=by
 refine ZZ.cs.dfs ajT (fun vs H Q E h=>?_) (fun f cdv A outer s H vs Q E hr h=>?_)
 ·obtain⟨_,_,_,_,_,_,_,_,rfl,_⟩:=h
  rfl
 obtain⟨p,dx,fa,m0,m1,m3,dv,wv,rfl,hp,hf,h0,h1,q⟩:=h
 refine⟨_,(ssC (sFl (v_ 0) (eIx xL (v_ 1) (eGl (v:=.int 0) ZZ.e4 ⟨_,rfl⟩)))
   (ssC (sFl (v_ 0) (eIx xL (v_ 1) (eGl (v:=.int 1) ZZ.fi ⟨_,rfl⟩)))
   (ssC (sFl (v_ 0) (eIx xL (v_ 1) (eGl (v:=.int 2) ZZ.ed ⟨_,rfl⟩)))
   (ssC (sFl (v_ 0) (eIx xL (v_ 1) (eGl (v:=.int 3) ZZ.fa ⟨_,rfl⟩)))
   (ssC (sFl (v_ 0) (eIx xL (v_ 1) (eGl (v:=.int 4) ZZ.b3 ⟨_,rfl⟩)))
   (ss1 (sFl (v_ 0) (eD (asB ZZ) hr (aC (eFl (v_ 0)) (aC (eFl (v_ 0)) aN)))))))))),?_⟩
 have hfp:fa≠p:=fun e=>by rw[e,hp] at hf;cases hf
 have g0:H fa=some (.lst [.int m0,.int m1,dv,.int m3,wv]):=hf
 have g1:(upd H p (.ins aA dx (aaY "minute_mask" (.int m0) []))) fa=some (.lst [.int m0,.int m1,dv,.int m3,wv]):=by rw[aaE hfp];exact g0
 have g2:(upd (upd H p (.ins aA dx (aaY "minute_mask" (.int m0) []))) p (.ins aA dx (aaY "hour_mask" (.int m1) (aaY "minute_mask" (.int m0) [])))) fa=some (.lst [.int m0,.int m1,dv,.int m3,wv]):=by rw[aaE hfp];exact g1
 have g3:(upd (upd (upd H p (.ins aA dx (aaY "minute_mask" (.int m0) []))) p (.ins aA dx (aaY "hour_mask" (.int m1) (aaY "minute_mask" (.int m0) [])))) p (.ins aA dx (aaY "day_marks" dv (aaY "hour_mask" (.int m1) (aaY "minute_mask" (.int m0) []))))) fa=some (.lst [.int m0,.int m1,dv,.int m3,wv]):=by rw[aaE hfp];exact g2
 have g4:(upd (upd (upd (upd H p (.ins aA dx (aaY "minute_mask" (.int m0) []))) p (.ins aA dx (aaY "hour_mask" (.int m1) (aaY "minute_mask" (.int m0) [])))) p (.ins aA dx (aaY "day_marks" dv (aaY "hour_mask" (.int m1) (aaY "minute_mask" (.int m0) []))))) p (.ins aA dx (aaY "month_mask" (.int m3) (aaY "day_marks" dv (aaY "hour_mask" (.int m1) (aaY "minute_mask" (.int m0) [])))))) fa=some (.lst [.int m0,.int m1,dv,.int m3,wv]):=by rw[aaE hfp];exact g3
 have g5:(upd (upd (upd (upd (upd H p (.ins aA dx (aaY "minute_mask" (.int m0) []))) p (.ins aA dx (aaY "hour_mask" (.int m1) (aaY "minute_mask" (.int m0) [])))) p (.ins aA dx (aaY "day_marks" dv (aaY "hour_mask" (.int m1) (aaY "minute_mask" (.int m0) []))))) p (.ins aA dx (aaY "month_mask" (.int m3) (aaY "day_marks" dv (aaY "hour_mask" (.int m1) (aaY "minute_mask" (.int m0) [])))))) p (.ins aA dx (aaY "weekday_marks" wv (aaY "month_mask" (.int m3) (aaY "day_marks" dv (aaY "hour_mask" (.int m1) (aaY "minute_mask" (.int m0) []))))))) fa=some (.lst [.int m0,.int m1,dv,.int m3,wv]):=by rw[aaE hfp];exact g4
 have l5:∀(f:Str) (v:V),(ab7 m0 m1 dv m3 wv 0).lookup f=some v->f≠"time_mask"->(aaY "weekday_marks" wv (aaY "month_mask" (.int m3) (aaY "day_marks" dv (aaY "hour_mask" (.int m1) (aaY "minute_mask" (.int m0) []))))).lookup f=some v:=fun f v h hne=>by
  unfold ab7 at h
  rw[aaD,if_neg hne] at h
  exact h
 refine⟨_,rfl,fa,_,_,_,rfl,rfl,SqL.of g0,rfl,_,rfl,p,aA,dx,_,rfl,hp,ZZ.ae.cl,ZZ.a3,(by show 0<1000;decide),_,rfl,fa,_,_,_,rfl,rfl,SqL.of g1,rfl,_,rfl,p,aA,dx,_,rfl,aaA,ZZ.ae.cl,ZZ.bc,(by show 1<1000;decide),_,rfl,fa,_,_,_,rfl,rfl,SqL.of g2,rfl,_,rfl,p,aA,dx,_,rfl,aaA,ZZ.ae.cl,ZZ.bd,(by show 2<1000;decide),_,rfl,fa,_,_,_,rfl,rfl,SqL.of g3,rfl,_,rfl,p,aA,dx,_,rfl,aaA,ZZ.ae.cl,ZZ.a5,(by show 3<1000;decide),_,rfl,fa,_,_,_,rfl,rfl,SqL.of g4,rfl,_,rfl,p,aA,dx,_,rfl,aaA,ZZ.ae.cl,ZZ.ax,(by show 4<1000;decide),_,rfl,p,aA,dx,_,_,rfl,aaA,ZZ.ae.cl,ZZ.bc,l5 _ _ (alU ..) (by decide +kernel),_,rfl,p,aA,dx,_,_,rfl,aaA,ZZ.ae.cl,ZZ.a3,l5 _ _ (aiA ..) (by decide +kernel),m1,m0,rfl,h1,h0,fun t HT ht sT=>?_⟩
 refine⟨_,rfl,p,aA,dx,_,rfl,sT _ _ aaA,ZZ.ae.cl,ZZ.ap,(by show 5<1000;decide),q t _ ht aaA fun b o hb hne=>?_⟩
 rw[aaE hne]
 refine sT _ _ ?_
 rw[aaE hne,aaE hne,aaE hne,aaE hne,aaE hne]
 exact hb
theorem aeF:DfM P w K mg base aA "days_in" 6 ["self","kind"] (al0 K aA aD aF aG aI aE aB aH aJ):=by
 refine ZZ.c5.dfs sc_Row_days_in (fun vs H Q E h=>?_) (fun f cdv A outer s H vs Q E hr h=>?_)
 ·obtain⟨_,_,_,_,_,_,_,_,_,_,_,rfl,_⟩:=h
  rfl
 obtain⟨p,dx,m0,m1,m3,tm,k,dv,wv,kd,kw,rfl,hp,hk,hm,hd,hw,q⟩:=h
 refine⟨_,(ssC (aaP 2 (eD (ac1 ZZ) hr (aC (v_ 1) aN)) sc_Row_days_in.nd)
   (ssC (sIf (tNo (tVa (eD (atJ ZZ) hr (aC (eFl (v_ 0)) (aC (eIx xT (v_ 2) eI) aN))))) (ss1 (aaH eI)) ssN)
   (ss1 (aaH (eD (atR ZZ) hr (aC (eFl (v_ 0)) (aC (eFl (v_ 0)) (aC (eIx xT (v_ 2) eI) (aC (eIx xT (v_ 2) eI) aN))))))))),?_⟩
 have ml:=afJ hk.1 hk.2
 refine⟨_,rfl,k,rfl,hk,fun t H1 s1 h1=>?_⟩
 rw[ahQ] at h1
 have hp1:=s1 _ _ hp
 refine⟨_,rfl,p,aA,dx,_,_,rfl,hp1,ZZ.ae.cl,ZZ.a5,aj4 ..,_,rfl,t,_,_,_,rfl,rfl,SqT.of h1,rfl,m3,mnA k,rfl,⟨hm,by omega⟩,_,rfl,?_⟩
 by_cases c:tb m3 (mnA k).toNat=true
 ·rw[if_pos c] at q
  rw[c]
  refine abM ⟨_,rfl,p,aA,dx,_,_,rfl,hp1,ZZ.ae.cl,ZZ.bd,amR ..,_,rfl,p,aA,dx,_,_,rfl,hp1,ZZ.ae.cl,ZZ.ax,agS ..,_,rfl,t,_,_,_,rfl,rfl,SqT.of h1,rfl,_,rfl,t,_,_,_,rfl,rfl,SqT.of h1,rfl,dv,wv,kd,kw,lnA k,k%7,rfl,hd.keep s1,hw.keep s1,ml.2,fun H' s'=>q H' (s1.trans s')⟩
 ·have c':tb m3 (mnA k).toNat=false:=by simpa using c
  rw[if_neg c] at q
  rw[c']
  exact ab6 (q H1 s1)
theorem apR:Df P w K mg base "read_word" 9 ["word","place"] (aoU K aD aF aG aI aE aB aH aJ):=by
 refine ZZ.d3.dfs sc_read_word (fun vs H Q E h=>?_) (fun f cdv A outer s H vs Q E hr h=>?_)
 ·obtain⟨_,_,rfl,_⟩:=h
  rfl
 obtain⟨t,pl,rfl,h⟩:=h
 refine⟨_,(ssC (sIf (tCm oEq (v_ 1) (eGl (v:=.int 2) ZZ.ed ⟨_,rfl⟩)) (ss1 (aaH (eD (ao9 ZZ) hr (aC (v_ 0) aN)))) ssN)
   (ssC (sIf (tCm oEq (v_ 1) (eGl (v:=.int 4) ZZ.b3 ⟨_,rfl⟩)) (ss1 (aaH (eD (ah2 ZZ) hr (aC (v_ 0) aN)))) ssN)
   (ssC (aaP 2 (eDgK (eGl (v:=.ref a_BOUNDS) ZZ.e5 rfl) (v_ 1)) sc_read_word.nd)
   (ss1 (aaH (eD (anA ZZ) hr (aC (v_ 0) (aC (eIx xT (v_ 2) eI) (aC (eIx xT (v_ 2) eI) aN))))))))),?_⟩
 rcases h with ⟨rfl,ko,hT,q⟩ | ⟨rfl,ko,hT,q⟩ | ⟨lo,hi,m,hp,hT,q⟩
 ·cases ko with
  |none=>
   have et:t=[42]:=hT.2.2
   exact⟨_,rfl,rfl,_,rfl,ifI (fun _=>⟨_,rfl,t,rfl,hT.2.1,(fun _ H' s'=>q _ H' s' rfl (fun p e=>nomatch e)),(fun c=>absurd et c)⟩) (fun c=>absurd rfl c)⟩
  |some ks=>
   exact⟨_,rfl,rfl,_,rfl,ifI (fun _=>⟨_,rfl,t,rfl,hT.2.1,(fun e=>absurd e hT.2.2.1),(fun _ m qs H' hm s' hl hF=>q _ H' s' ⟨m,qs,rfl,hl,by rw[←hT.2.2.2.2];exact hF,fun k hk=>(arM hT.2.2.2.1 k hk).2.2⟩ (fun p e=>by cases e;exact hm))⟩) (fun c=>absurd rfl c)⟩
 ·cases ko with
  |none=>
   have et:t=[42]:=hT.2.2
   exact⟨_,rfl,rfl,_,rfl,ifI (fun c=>absurd c (by decide)) (fun _=>⟨_,rfl,rfl,_,rfl,ifI (fun _=>⟨_,rfl,t,rfl,hT.2.1,(fun _ H' s'=>q _ H' s' rfl (fun p e=>nomatch e)),(fun c=>absurd et c)⟩) (fun c=>absurd rfl c)⟩)⟩
  |some ks=>
   exact⟨_,rfl,rfl,_,rfl,ifI (fun c=>absurd c (by decide)) (fun _=>⟨_,rfl,rfl,_,rfl,ifI (fun _=>⟨_,rfl,t,rfl,hT.2.1,(fun e=>absurd e hT.2.2.1),(fun _ m qs H' hm s' hl hF=>q _ H' s' ⟨m,qs,rfl,hl,by rw[←hT.2.2.2.2];exact hF,fun k hk=>(arM hT.2.2.2.1 k hk).2.2⟩ (fun p e=>by cases e;exact hm))⟩) (fun c=>absurd rfl c)⟩)⟩
 ·have hl:=hT.len
  have hne:pl≠2/\pl≠4:=by omega
  rcases hp with ⟨rfl,rfl,rfl⟩ | ⟨rfl,rfl,rfl⟩ | ⟨rfl,rfl,rfl⟩
  ·exact⟨_,rfl,rfl,_,rfl,ifI (fun c=>absurd c (by decide)) (fun _=>⟨_,rfl,rfl,_,rfl,ifI (fun c=>absurd c (by decide)) (fun _=>⟨_,rfl,a_BOUNDS,_,_,_,rfl,ZZ.bn,rfl,rfl,_,rfl,_,rfl,a_BOUNDS_0,_,_,_,rfl,rfl,ZZ.bv _,rfl,_,rfl,a_BOUNDS_0,_,_,_,rfl,rfl,ZZ.bv _,rfl,t,_,_,rfl,hl,⟨by decide,by decide,by decide⟩,hT.ok,fun H' s'=>by rw[hT.is];exact q H' s'⟩)⟩)⟩
  ·exact⟨_,rfl,rfl,_,rfl,ifI (fun c=>absurd c (by decide)) (fun _=>⟨_,rfl,rfl,_,rfl,ifI (fun c=>absurd c (by decide)) (fun _=>⟨_,rfl,a_BOUNDS,_,_,_,rfl,ZZ.bn,rfl,rfl,_,rfl,_,rfl,a_BOUNDS_1,_,_,_,rfl,rfl,ZZ.bw _,rfl,_,rfl,a_BOUNDS_1,_,_,_,rfl,rfl,ZZ.bw _,rfl,t,_,_,rfl,hl,⟨by decide,by decide,by decide⟩,hT.ok,fun H' s'=>by rw[hT.is];exact q H' s'⟩)⟩)⟩
  ·exact⟨_,rfl,rfl,_,rfl,ifI (fun c=>absurd c (by decide)) (fun _=>⟨_,rfl,rfl,_,rfl,ifI (fun c=>absurd c (by decide)) (fun _=>⟨_,rfl,a_BOUNDS,_,_,_,rfl,ZZ.bn,rfl,rfl,_,rfl,_,rfl,a_BOUNDS_3,_,_,_,rfl,rfl,ZZ.bx _,rfl,_,rfl,a_BOUNDS_3,_,_,_,rfl,rfl,ZZ.bx _,rfl,t,_,_,rfl,hl,⟨by decide,by decide,by decide⟩,hT.ok,fun H' s'=>by rw[hT.is];exact q H' s'⟩)⟩)⟩
theorem atY:Df P w K mg base "read_at" 10 ["word","place"] (at8 K aD aF aG aI aE aB aH aJ):=by
 refine ZZ.e1.dfs atL (fun vs H Q E h=>?_) (fun f cdv A outer s H vs Q E hr h=>?_)
 ·obtain⟨_,_,rfl,_⟩:=h
  rfl
 obtain⟨t,pl,rfl,h⟩:=h
 refine⟨_,(ss1 (aNW (ss1 (aaH (eD (apR ZZ) hr (aC (v_ 0) (aC (v_ 1) aN))))))),?_⟩
 exact⟨_,rfl,_,rfl,t,pl,rfl,h⟩
theorem ai1:Df P w K mg base "read_row" 11 ["text"] (arV K aD aF aG aI aE aB aH aJ aA):=by
 refine ZZ.en.dfs sc_read_row (fun vs H Q E h=>?_) (fun f cdv A outer s H vs Q E hr h=>?_)
 ·obtain⟨_,_,_,_,_,_,_,_,_,_,rfl,_⟩:=h
  rfl
 obtain⟨w0,w1,w2,w3,w4,m0,m1,m3,kd,kw,rfl,f0,f1,f3,d2,d4,hb,q⟩:=h
 refine⟨_,(ssC (sIf (tW (wOr (tNo (tVa (eCB cIs ZZ.ah PyProof.Rows.boot_isinstance (aC (v_ 0) (aC (eTy ZZ.af PyProof.Rows.boot_str) aN))))) (anM (tCm oGt (eCB azH ZZ.aj PySem.boot_len (aC (v_ 0) aN)) (eGl (v:=.int 1600) ZZ.ca ⟨_,rfl⟩))))) (ss1 aqV) ssN)
   (ssC (aaP 1 (avU (v_ 0) (eSx [32])) sc_read_row.nd)
   (ssC (sIf (tW (wOr (tCm oNe (eCB apI ZZ.aj PySem.boot_len (aC (v_ 1) aN)) (eGl (v:=.int 5) ZZ.ee ⟨_,rfl⟩)) (anM (tCm oIn (eSx []) (v_ 1))))) (ss1 aqV) ssN)
   (ss1 (aaH (eMk ZZ.ae (akF ZZ) hr (aC (aw0 ["place","word"] [] [] (iE ZZ.as (v_ 1)) (fun _ _ _ _ _ _=>aBV (K:=K) (n:=2) (gsC (gN 0 (show ((["place","word"]:List Str)++([]:List Str)).Nodup by decide +kernel)) (gsC (gN 1 (show ((["place","word"]:List Str)++([]:List Str)).Nodup by decide +kernel)) gsN))) (fun _ _ _ _ _ _=>fsN) (fun _ _ _ _ _ _=>(eD (atY ZZ) hr (aC (v_ 1) (aC (v_ 0) aN))))) aN))))))),?_⟩
 have n32:∀w∈[w0,w1,w2,w3,w4],32∉w:=fun w hw=>by
  simp only[aX,bV,or_false] at hw
  rcases hw with rfl | rfl | rfl | rfl | rfl
  ·exact f0.sp
  ·exact f1.sp
  ·exact d2.1.1
  ·exact f3.sp
  ·exact d4.1.1
 have nn:∀w∈[w0,w1,w2,w3,w4],w≠[]:=fun w hw=>by
  simp only[aX,bV,or_false] at hw
  rcases hw with rfl | rfl | rfl | rfl | rfl
  ·exact f0.ne
  ·exact f1.ne
  ·exact d2.1.2
  ·exact f3.ne
  ·exact d4.1.2
 have hs:=aeL 32 [w0,w1,w2,w3,w4] (bN _ _) n32
 obtain⟨L,eL⟩:∃L,L=aa1 32 [w0,w1,w2,w3,w4]:=⟨_,rfl⟩
 have hl:L.length<=1600:=by
  have:=f0.len
  have:=f1.len
  have:=f3.len
  have:=d2.2.1.len
  have:=d4.2.1.len
  rw[eL]
  show (w0++32::(w1++32::(w2++32::(w3++32::w4)))).length<=1600
  simp only[aW,bJ]
  omega
 rw[←eL] at hs ⊢
 refine⟨_,rfl,_,.str,.str,rfl,(by decide),rfl,_,rfl,ifF rfl ⟨_,rfl,L,rfl,(by rw[dY];omega),_,_,rfl,rfl,_,rfl,?_⟩⟩
 rw[d8 (show ¬(1600:Int)<((L.length:Nat):Int) by omega)]
 refine abM ⟨_,rfl,rfl,L,32,rfl,rfl,(by rw[dY];omega),fun ps hps=>?_⟩
 rw[hs]
 have s0:=aaB hps (.lst ([w0,w1,w2,w3,w4].map fun q=>V.str (Tx q)))
 refine⟨_,rfl,ps,_,rfl,.inl (SqL.of aaA),rfl,_,rfl,ifNe rfl ⟨_,rfl,ps,_,rfl,.inl (SqL.of aaA),rfl,rfl,_,rfl,?_⟩⟩
 show if inV (.str (Tx [])) ([w0,w1,w2,w3,w4].map fun q=>V.str (Tx q))=true then _ else _
 rw[az4 nn]
 refine abM ⟨_,rfl,ps,rfl,⟨_,SqL.of aaA⟩,atK (xs:=[w0,w1,w2,w3,w4].map fun q=>V.str (Tx q)) (fun D i l HZ=>i=0/\l=[]∨(∃l',HZ D=some (.lst l'))/\RRf (⟨aD,aF,aG,aI,aE,aB,aH,aJ⟩:Cs) H m0 m1 m3 (gO false kd) (gO true kw) D i l HZ) ?u1 ?u2 (zL 5) (fun D _=>.inl ⟨rfl,rfl⟩) (SqL.of aaA) ?st ?dn⟩
 case u1=>
  rintro D i l HX l' (h | ⟨hl,h⟩)
  ·exact .inl h
  ·exact .inr ⟨⟨_,aaA⟩,h.upd hl⟩
 case u2=>
  rintro D i l HX HY s (h | ⟨⟨l',hl⟩,h⟩)
  ·exact .inl h
  ·exact .inr ⟨⟨l',s _ _ hl⟩,h.keep s⟩
 case st=>
  intro i x l D H2 E' F' hx hR hD s2 hz hE hF
  have hR':RRf (⟨aD,aF,aG,aI,aE,aB,aH,aJ⟩:Cs) H m0 m1 m3 (gO false kd) (gO true kw) D i l H2:=by
   rcases hR with ⟨rfl,rfl⟩ | h
   ·rfl
   ·exact h.2
  have up:∀{H5:Hp},Same H2 H5->∃l',H5 D=some (.lst l'):=fun s=>⟨_,s _ _ hz⟩
  have fr:∀{p:Addr},H2 p=none->p≠D:=fun h e=>by rw[e,hz] at h;cases h
  match i,hx,hR' with
  |0,hx,e=>cases hx;exact⟨_,rfl,_,rfl,w0,0,rfl,.inr (.inr ⟨0,59,m0,.inl ⟨rfl,rfl,rfl⟩,f0,fun H' s'=>hE _ _ s' (.inr ⟨up s',by rw[e];rfl⟩)⟩)⟩
  |1,hx,e=>cases hx;exact⟨_,rfl,_,rfl,w1,1,rfl,.inr (.inr ⟨0,23,m1,.inr (.inl ⟨rfl,rfl,rfl⟩),f1,fun H' s'=>hE _ _ s' (.inr ⟨up s',by rw[e];rfl⟩)⟩)⟩
  |2,hx,e=>cases hx;exact⟨_,rfl,_,rfl,w2,2,rfl,.inl ⟨rfl,kd,d2,fun v H' s' hv hn=>hE _ _ s' (.inr ⟨up s',v,by rw[e];rfl,hv,fun p ep=>⟨fr (hn p ep),(s0.trans s2).none (hn p ep)⟩⟩)⟩⟩
  |3,hx,⟨dv,e,hd⟩=>cases hx;exact⟨_,rfl,_,rfl,w3,3,rfl,.inr (.inr ⟨1,12,m3,.inr (.inr ⟨rfl,rfl,rfl⟩),f3,fun H' s'=>hE _ _ s' (.inr ⟨up s',dv,by rw[e];rfl,hd.keep s'⟩)⟩)⟩
  |4,hx,⟨dv,e,hd⟩=>cases hx;exact⟨_,rfl,_,rfl,w4,4,rfl,.inr (.inl ⟨rfl,kw,d4,fun v H' s' hv hn=>hE _ _ s' (.inr ⟨up s',dv,v,by rw[e];rfl,hd.keep s',hv,fun p ep=>⟨fr (hn p ep),(s0.trans s2).none (hn p ep)⟩⟩)⟩)⟩
  |i+5,hx,_=>cases hx
 case dn=>
  intro D H2 l hR hD s2 hz
  rcases hR with ⟨e,_⟩ | ⟨_,hR⟩
  ·cases e
  obtain⟨dv,wv,rfl,hd,hw⟩:=hR
  intro x dx nx ndx nex
  have n1:=ab0 (a:=.own x) (b:=.ins aA dx []) nx ndx
  refine⟨x,dx,D,m0,m1,m3,dv,wv,rfl,aaA,n1 _ _ hz,⟨f0.nn,hb.1⟩,⟨f1.nn,hb.2⟩,fun tm H' htm hx' hs'=>⟨rfl,?_⟩⟩
  have sX:Same H2 H':=fun b o hb'=>hs' b o (n1 _ _ hb') (fun e=>by rw[e,nx] at hb';cases hb')
  exact q x dx dv wv tm H' htm (s0.trans (s2.trans sX)) hx' (hd.1.keep sX) (hw.1.keep sX) ⟨(s0.trans s2).none nx,fun p e=>(hd.2 p e).2,fun p e=>(hw.2 p e).2⟩
theorem amA{k0:Nat}:DfM P w K mg base aL "tally" (k0+1) ["self"] (sp1 aL):=by
 refine ZZ.dp.dfs am4 (fun vs H Q E h=>?_) (fun f cdv A outer s H vs Q E hr h=>?_)
 ·obtain⟨x,dx,fs,rfl,_⟩:=h
  rfl
 obtain⟨x,dx,fs,rfl,hx,q⟩:=h
 refine⟨_,(ss1 (aaH eI)),?_⟩
 exact q
theorem apB{k0:Nat}:DfM P w K mg base aQ "tally" (k0+1) ["self"] (sp1 aQ):=by
 refine ZZ.eo.dfs aqS (fun vs H Q E h=>?_) (fun f cdv A outer s H vs Q E hr h=>?_)
 ·obtain⟨x,dx,fs,rfl,_⟩:=h
  rfl
 obtain⟨x,dx,fs,rfl,hx,q⟩:=h
 refine⟨_,(ss1 (aaH eI)),?_⟩
 exact q
theorem ah6{k0:Nat}{sp0:Sp}(D0:Df P w K mg base "tally_of" k0 ["books"] sp0):DfM P w K mg base aM "tally" (k0+1) ["self"] (spT aM sp0):=by
 refine ZZ.ct.dfs ajQ (fun vs H Q E h=>?_) (fun f cdv A outer s H vs Q E hr h=>?_)
 ·obtain⟨x,dx,t,rfl,hx,q⟩:=h
  rfl
 obtain⟨x,dx,t,rfl,hx,q⟩:=h
 refine⟨_,(ss1 (aaH (eDr D0 hr (aC (eFl (v_ 0)) aN)))),?_⟩
 exact⟨_,rfl,x,aM,dx,_,_,rfl,hx,ZZ.aa.cl,ZZ.ak,rfl,q⟩
theorem anD{k0:Nat}{sp0:Sp}(D0:Df P w K mg base "tally_of" k0 ["books"] sp0):DfM P w K mg base aO "tally" (k0+1) ["self"] (spT aO sp0):=by
 refine ZZ.d4.dfs ao7 (fun vs H Q E h=>?_) (fun f cdv A outer s H vs Q E hr h=>?_)
 ·obtain⟨x,dx,t,rfl,hx,q⟩:=h
  rfl
 obtain⟨x,dx,t,rfl,hx,q⟩:=h
 refine⟨_,(ss1 (aaH (eDr D0 hr (aC (eFl (v_ 0)) aN)))),?_⟩
 exact⟨_,rfl,x,aO,dx,_,_,rfl,hx,ZZ.ad.cl,ZZ.ar,rfl,q⟩
theorem alF{k0:Nat}{sp0:Sp}(D0:Df P w K mg base "tally_of" k0 ["books"] sp0):DfM P w K mg base aK "tally" (k0+1) ["self"] (spL aK sp0):=by
 refine ZZ.dq.dfs am1 (fun vs H Q E h=>?_) (fun f cdv A outer s H vs Q E hr h=>?_)
 ·obtain⟨x,dx,v1,v2,rfl,hx,q⟩:=h
  rfl
 obtain⟨x,dx,v1,v2,rfl,hx,q⟩:=h
 refine⟨_,(ss1 (aaH (eDr D0 hr (aC (aaZ (aC (eFl (v_ 0)) (aC (eFl (v_ 0)) aN))) aN)))),?_⟩
 exact⟨_,rfl,x,aK,dx,_,_,rfl,hx,ZZ.ac.cl,ZZ.aw,rfl,_,rfl,x,aK,dx,_,_,rfl,hx,ZZ.ac.cl,ZZ.al,rfl,(zL 2),fun l hl=>q l hl⟩
theorem aiG{k0:Nat}{sp0:Sp}(D0:Df P w K mg base "tally_of" k0 ["books"] sp0):DfM P w K mg base aP "tally" (k0+1) ["self"] (spU aP sp0):=by
 refine ZZ.cu.dfs ajR (fun vs H Q E h=>?_) (fun f cdv A outer s H vs Q E hr h=>?_)
 ·obtain⟨x,dx,v1,rfl,hx,q⟩:=h
  rfl
 obtain⟨x,dx,v1,rfl,hx,q⟩:=h
 refine⟨_,(ss1 (aaH (eDr D0 hr (aC (aaZ (aC (eFl (v_ 0)) aN)) aN)))),?_⟩
 exact⟨_,rfl,x,aP,dx,_,_,rfl,hx,ZZ.ab.cl,ZZ.am,rfl,(zL 1),fun l hl=>q l hl⟩
theorem amN{k0:Nat}:DfM P w K mg base aL "depth" (k0+1) ["self"] (sp1 aL):=by
 refine ZZ.dr.dfs am7 (fun vs H Q E h=>?_) (fun f cdv A outer s H vs Q E hr h=>?_)
 ·obtain⟨x,dx,fs,rfl,_⟩:=h
  rfl
 obtain⟨x,dx,fs,rfl,hx,q⟩:=h
 refine⟨_,(ss1 (aaH eI)),?_⟩
 exact q
theorem ao8{k0:Nat}:DfM P w K mg base aQ "depth" (k0+1) ["self"] (sp1 aQ):=by
 refine ZZ.ep.dfs ar4 (fun vs H Q E h=>?_) (fun f cdv A outer s H vs Q E hr h=>?_)
 ·obtain⟨x,dx,fs,rfl,_⟩:=h
  rfl
 obtain⟨x,dx,fs,rfl,hx,q⟩:=h
 refine⟨_,(ss1 (aaH eI)),?_⟩
 exact q
theorem aiY{k0:Nat}{sp0:Sp}(D0:Df P w K mg base "depth_of" k0 ["books"] sp0):DfM P w K mg base aM "depth" (k0+1) ["self"] (spT aM sp0):=by
 refine ZZ.cv.dfs ajU (fun vs H Q E h=>?_) (fun f cdv A outer s H vs Q E hr h=>?_)
 ·obtain⟨x,dx,t,rfl,hx,q⟩:=h
  rfl
 obtain⟨x,dx,t,rfl,hx,q⟩:=h
 refine⟨_,(ss1 (aaH (eDr D0 hr (aC (eFl (v_ 0)) aN)))),?_⟩
 exact⟨_,rfl,x,aM,dx,_,_,rfl,hx,ZZ.aa.cl,ZZ.ak,rfl,q⟩
theorem am2{k0:Nat}{sp0:Sp}(D0:Df P w K mg base "depth_of" k0 ["books"] sp0):DfM P w K mg base aO "depth" (k0+1) ["self"] (spT aO sp0):=by
 refine ZZ.d5.dfs apC (fun vs H Q E h=>?_) (fun f cdv A outer s H vs Q E hr h=>?_)
 ·obtain⟨x,dx,t,rfl,hx,q⟩:=h
  rfl
 obtain⟨x,dx,t,rfl,hx,q⟩:=h
 refine⟨_,(ss1 (aaH (eDr D0 hr (aC (eFl (v_ 0)) aN)))),?_⟩
 exact⟨_,rfl,x,aO,dx,_,_,rfl,hx,ZZ.ad.cl,ZZ.ar,rfl,q⟩
theorem ak2{k0:Nat}{sp0:Sp}(D0:Df P w K mg base "depth_of" k0 ["books"] sp0):DfM P w K mg base aK "depth" (k0+1) ["self"] (spL aK sp0):=by
 refine ZZ.ds.dfs anC (fun vs H Q E h=>?_) (fun f cdv A outer s H vs Q E hr h=>?_)
 ·obtain⟨x,dx,v1,v2,rfl,hx,q⟩:=h
  rfl
 obtain⟨x,dx,v1,v2,rfl,hx,q⟩:=h
 refine⟨_,(ss1 (aaH (eDr D0 hr (aC (aaZ (aC (eFl (v_ 0)) (aC (eFl (v_ 0)) aN))) aN)))),?_⟩
 exact⟨_,rfl,x,aK,dx,_,_,rfl,hx,ZZ.ac.cl,ZZ.aw,rfl,_,rfl,x,aK,dx,_,_,rfl,hx,ZZ.ac.cl,ZZ.al,rfl,(zL 2),fun l hl=>q l hl⟩
theorem aiF{k0:Nat}{sp0:Sp}(D0:Df P w K mg base "depth_of" k0 ["books"] sp0):DfM P w K mg base aP "depth" (k0+1) ["self"] (spU aP sp0):=by
 refine ZZ.cw.dfs aj6 (fun vs H Q E h=>?_) (fun f cdv A outer s H vs Q E hr h=>?_)
 ·obtain⟨x,dx,v1,rfl,hx,q⟩:=h
  rfl
 obtain⟨x,dx,v1,rfl,hx,q⟩:=h
 refine⟨_,(ss1 (aaH (eDr D0 hr (aC (aaZ (aC (eFl (v_ 0)) aN)) aN)))),?_⟩
 exact⟨_,rfl,x,aP,dx,_,_,rfl,hx,ZZ.ab.cl,ZZ.am,rfl,(zL 1),fun l hl=>q l hl⟩
theorem aqE{k0 n:Nat}{sp0:Sp}(hs:∀m,n=m+1->sp0=tyT K aL aQ aM aO aK aP m)(DBook:DfM P w K mg base aL "tally" k0 ["self"] (sp1 aL))(DOf:DfM P w K mg base aQ "tally" k0 ["self"] (sp1 aQ))(DJoined:DfM P w K mg base aM "tally" k0 ["self"] (spT aM sp0))(DMet:DfM P w K mg base aO "tally" k0 ["self"] (spT aO sp0))(DLess:DfM P w K mg base aK "tally" k0 ["self"] (spL aK sp0))(DTurned:DfM P w K mg base aP "tally" k0 ["self"] (spU aP sp0)):Df P w K mg base "tally_of" (k0+1) ["books"] (tyT K aL aQ aM aO aK aP n):=by
 refine ZZ.bz.dfs ajH (fun vs H Q E h=>?_) (fun f cdv A outer s H vs Q E hr h=>?_)
 ·obtain⟨a,us,tds,rfl,_⟩:=h
  rfl
 obtain⟨a,us,tds,rfl,hS,hbs,hl,q⟩:=h
 refine⟨_,(ss1 (aaH (eOp ab1 eI (eCB cSum ZZ.fm PyProof.Rows.boot_sum (aC (abS (ac4 [] [] (iL (v_ 0)) (fun _ _ _ _ _ _=>fsN) (fun _ _ _ _ _ _=>(abS (abQ ZZ.ag.cl DBook hr (v_ 0)) (abS (abQ ZZ.av.cl DOf hr (v_ 0)) (abS (abQ ZZ.aa.cl DJoined hr (v_ 0)) (abS (abQ ZZ.ad.cl DMet hr (v_ 0)) (abS (abQ ZZ.ac.cl DLess hr (v_ 0)) (abQ ZZ.ab.cl DTurned hr (v_ 0))))))))) (ac4 [] [] (iT (v_ 0)) (fun _ _ _ _ _ _=>fsN) (fun _ _ _ _ _ _=>(abS (abQ ZZ.ag.cl DBook hr (v_ 0)) (abS (abQ ZZ.av.cl DOf hr (v_ 0)) (abS (abQ ZZ.aa.cl DJoined hr (v_ 0)) (abS (abQ ZZ.ad.cl DMet hr (v_ 0)) (abS (abQ ZZ.ac.cl DLess hr (v_ 0)) (abQ ZZ.ab.cl DTurned hr (v_ 0)))))))))) aN))))),?_⟩
 rcases hS with hS | hS
 ·refine .inl ⟨_,rfl,a,rfl,⟨_,hS⟩,acT (xs:=us) (fun i l=>l=((tds.take i).map Prod.fst).map V.int) (by rw[dY];omega) rfl hS (fun i v l D H2 E' F' hv hR hD s2 hz hE hF=>?_) (fun D H2 l hR hD s2 hz=>?_)⟩
  ·subst hR
   obtain⟨td,etd,hb0⟩:=KM.Paired.at hbs hv
   have hb:=aaX s2 n hb0
   have fin:∀H5,Same H2 H5->E' (.int td.1) H5:=fun H5 s5=>hE _ _ s5 (by rw[bK,etd,aZ,aZ];rfl)
   cases n with
   |zero=>exact hb.elim
   |succ m=>
    obtain rfl:=hs m rfl
    obtain⟨x,dx,rfl,hb⟩:=hb
    rcases hb with ⟨e,hx | ⟨r,hx⟩⟩ | ⟨C,t,vs,tds',hC,hx,ht,hp,h0,h8,e1,_,_⟩ | ⟨v1,v2,a',b',hx,h1,h2,e1,_,_⟩ | ⟨v1,a',hx,h1,e⟩
    ·rw[show td.1=1 by rw[e]] at fin
     exact .inl ⟨_,rfl,x,dx,_,rfl,hx,rfl,x,dx,_,rfl,hx,fin _ (Same.refl _)⟩
    ·rw[show td.1=1 by rw[e]] at fin
     exact .inr (.inl ⟨_,rfl,x,dx,_,rfl,hx,lk1 (by decide +kernel),x,dx,_,rfl,hx,fin _ (Same.refl _)⟩)
    ·rw[e1] at fin
     rcases hC with rfl | rfl
     ·exact .inr (.inr (.inl ⟨_,rfl,x,dx,_,rfl,hx,lk1 (by decide +kernel),x,dx,t,rfl,hx,t,vs,tds',rfl,.inr (SqT.of ht),hp,by omega,fin⟩))
     ·exact .inr (.inr (.inr (.inl ⟨_,rfl,x,dx,_,rfl,hx,lk1 (by decide +kernel),x,dx,t,rfl,hx,t,vs,tds',rfl,.inr (SqT.of ht),hp,by omega,fin⟩)))
    ·rw[e1] at fin
     exact .inr (.inr (.inr (.inr (.inl ⟨_,rfl,x,dx,_,rfl,hx,lk2 (by decide +kernel) (by decide +kernel),x,dx,v1,v2,rfl,hx,fun l hl=>⟨l,[v1,v2],[a',b'],rfl,.inl (SqL.of aaA),.cons (aaX (aaB hl _) m h1) (.cons (aaX (aaB hl _) m h2) .nil),(by show 2<=9;decide),fun H5 s5=>by have:=fin H5 ((aaB hl _).trans s5);simpa using this⟩⟩))))
    ·rw[show td.1=1+a'.1 by rw[e]] at fin
     exact .inr (.inr (.inr (.inr (.inr ⟨_,rfl,x,dx,_,rfl,hx,lk1 (by decide +kernel),x,dx,v1,rfl,hx,fun l hl=>⟨l,[v1],[a'],rfl,.inl (SqL.of aaA),.cons (aaX (aaB hl _) m h1) .nil,(by show 1<=9;decide),fun H5 s5=>by have:=fin H5 ((aaB hl _).trans s5);simpa using this⟩⟩))))
  ·subst hR
   refine⟨D,tds.map Prod.fst,rfl,SqL.of (by rw[hz,Paired.length hbs,bS]),_,_,rfl,rfl,q H2 s2⟩
 ·refine .inr ⟨_,rfl,a,rfl,⟨_,hS⟩,arT (xs:=us) (fun i l=>l=((tds.take i).map Prod.fst).map V.int) (by rw[dY];omega) rfl hS (fun i v l D H2 E' F' hv hR hD s2 hz hE hF=>?_) (fun D H2 l hR hD s2 hz=>?_)⟩
  ·subst hR
   obtain⟨td,etd,hb0⟩:=KM.Paired.at hbs hv
   have hb:=aaX s2 n hb0
   have fin:∀H5,Same H2 H5->E' (.int td.1) H5:=fun H5 s5=>hE _ _ s5 (by rw[bK,etd,aZ,aZ];rfl)
   cases n with
   |zero=>exact hb.elim
   |succ m=>
    obtain rfl:=hs m rfl
    obtain⟨x,dx,rfl,hb⟩:=hb
    rcases hb with ⟨e,hx | ⟨r,hx⟩⟩ | ⟨C,t,vs,tds',hC,hx,ht,hp,h0,h8,e1,_,_⟩ | ⟨v1,v2,a',b',hx,h1,h2,e1,_,_⟩ | ⟨v1,a',hx,h1,e⟩
    ·rw[show td.1=1 by rw[e]] at fin
     exact .inl ⟨_,rfl,x,dx,_,rfl,hx,rfl,x,dx,_,rfl,hx,fin _ (Same.refl _)⟩
    ·rw[show td.1=1 by rw[e]] at fin
     exact .inr (.inl ⟨_,rfl,x,dx,_,rfl,hx,lk1 (by decide +kernel),x,dx,_,rfl,hx,fin _ (Same.refl _)⟩)
    ·rw[e1] at fin
     rcases hC with rfl | rfl
     ·exact .inr (.inr (.inl ⟨_,rfl,x,dx,_,rfl,hx,lk1 (by decide +kernel),x,dx,t,rfl,hx,t,vs,tds',rfl,.inr (SqT.of ht),hp,by omega,fin⟩))
     ·exact .inr (.inr (.inr (.inl ⟨_,rfl,x,dx,_,rfl,hx,lk1 (by decide +kernel),x,dx,t,rfl,hx,t,vs,tds',rfl,.inr (SqT.of ht),hp,by omega,fin⟩)))
    ·rw[e1] at fin
     exact .inr (.inr (.inr (.inr (.inl ⟨_,rfl,x,dx,_,rfl,hx,lk2 (by decide +kernel) (by decide +kernel),x,dx,v1,v2,rfl,hx,fun l hl=>⟨l,[v1,v2],[a',b'],rfl,.inl (SqL.of aaA),.cons (aaX (aaB hl _) m h1) (.cons (aaX (aaB hl _) m h2) .nil),(by show 2<=9;decide),fun H5 s5=>by have:=fin H5 ((aaB hl _).trans s5);simpa using this⟩⟩))))
    ·rw[show td.1=1+a'.1 by rw[e]] at fin
     exact .inr (.inr (.inr (.inr (.inr ⟨_,rfl,x,dx,_,rfl,hx,lk1 (by decide +kernel),x,dx,v1,rfl,hx,fun l hl=>⟨l,[v1],[a'],rfl,.inl (SqL.of aaA),.cons (aaX (aaB hl _) m h1) .nil,(by show 1<=9;decide),fun H5 s5=>by have:=fin H5 ((aaB hl _).trans s5);simpa using this⟩⟩))))
  ·subst hR
   refine⟨D,tds.map Prod.fst,rfl,SqL.of (by rw[hz,Paired.length hbs,bS]),_,_,rfl,rfl,q H2 s2⟩
theorem aqG:Df P w K mg base "tally_of" 1 ["books"] (fun _ _ _ _=>False):=ZZ.bz.dfs ajH (fun _ _ _ _ h=>h.elim) (fun _ _ _ _ _ _ _ _ _ _ h=>h.elim)
theorem aeZ{k0 n:Nat}{sp0:Sp}(hs:∀m,n=m+1->sp0=tyT K aL aQ aM aO aK aP m)(D0:Df P w K mg base "tally_of" k0 ["books"] sp0):Df P w K mg base "tally_of" (k0+2) ["books"] (tyT K aL aQ aM aO aK aP n):=
 aqE ZZ hs (amA ZZ) (apB ZZ) (ah6 ZZ D0) (anD ZZ D0) (alF ZZ D0) (aiG ZZ D0)
theorem ag3:∀n:Nat,Df P w K mg base "tally_of" (2*n+3) ["books"] (tyT K aL aQ aM aO aK aP n)
 |0=>aeZ ZZ (fun m h=>absurd h.symm (Nat.succ_ne_zero m)) (aqG ZZ)
 |n+1=>aeZ ZZ (fun m h=>congrArg (fun z=>tyT K aL aQ aM aO aK aP z) (bU h)) (ag3 n)
theorem aq5:Df P w K mg base "tally_of" 15 ["books"] (aq9 K aL aQ aM aO aK aP):=ag3 ZZ 6
theorem apH{k0 n:Nat}{sp0:Sp}(hs:∀m,n=m+1->sp0=tyD K aL aQ aM aO aK aP m)(DBook:DfM P w K mg base aL "depth" k0 ["self"] (sp1 aL))(DOf:DfM P w K mg base aQ "depth" k0 ["self"] (sp1 aQ))(DJoined:DfM P w K mg base aM "depth" k0 ["self"] (spT aM sp0))(DMet:DfM P w K mg base aO "depth" k0 ["self"] (spT aO sp0))(DLess:DfM P w K mg base aK "depth" k0 ["self"] (spL aK sp0))(DTurned:DfM P w K mg base aP "depth" k0 ["self"] (spU aP sp0)):Df P w K mg base "depth_of" (k0+1) ["books"] (tyD K aL aQ aM aO aK aP n):=by
 refine ZZ.b0.dfs ai7 (fun vs H Q E h=>?_) (fun f cdv A outer s H vs Q E hr h=>?_)
 ·obtain⟨a,us,tds,rfl,_⟩:=h
  rfl
 obtain⟨a,us,tds,rfl,hS,hbs,h0,hl,q⟩:=h
 refine⟨_,(ss1 (aaH (eOp ab1 eI (eCB aO0 ZZ.fn PyProof.Rows.boot_max (aC (abS (ac4 [] [] (iL (v_ 0)) (fun _ _ _ _ _ _=>fsN) (fun _ _ _ _ _ _=>(abS (abQ ZZ.ag.cl DBook hr (v_ 0)) (abS (abQ ZZ.av.cl DOf hr (v_ 0)) (abS (abQ ZZ.aa.cl DJoined hr (v_ 0)) (abS (abQ ZZ.ad.cl DMet hr (v_ 0)) (abS (abQ ZZ.ac.cl DLess hr (v_ 0)) (abQ ZZ.ab.cl DTurned hr (v_ 0))))))))) (ac4 [] [] (iT (v_ 0)) (fun _ _ _ _ _ _=>fsN) (fun _ _ _ _ _ _=>(abS (abQ ZZ.ag.cl DBook hr (v_ 0)) (abS (abQ ZZ.av.cl DOf hr (v_ 0)) (abS (abQ ZZ.aa.cl DJoined hr (v_ 0)) (abS (abQ ZZ.ad.cl DMet hr (v_ 0)) (abS (abQ ZZ.ac.cl DLess hr (v_ 0)) (abQ ZZ.ab.cl DTurned hr (v_ 0)))))))))) aN))))),?_⟩
 rcases hS with hS | hS
 ·refine .inl ⟨_,rfl,a,rfl,⟨_,hS⟩,acT (xs:=us) (fun i l=>l=((tds.take i).map Prod.snd).map V.int) (by rw[dY];omega) rfl hS (fun i v l D H2 E' F' hv hR hD s2 hz hE hF=>?_) (fun D H2 l hR hD s2 hz=>?_)⟩
  ·subst hR
   obtain⟨td,etd,hb0⟩:=KM.Paired.at hbs hv
   have hb:=aaX s2 n hb0
   have fin:∀H5,Same H2 H5->E' (.int td.2) H5:=fun H5 s5=>hE _ _ s5 (by rw[bK,etd,aZ,aZ];rfl)
   cases n with
   |zero=>exact hb.elim
   |succ m=>
    obtain rfl:=hs m rfl
    obtain⟨x,dx,rfl,hb⟩:=hb
    rcases hb with ⟨e,hx | ⟨r,hx⟩⟩ | ⟨C,t,vs,tds',hC,hx,ht,hp,h0,h8,_,e2,e1⟩ | ⟨v1,v2,a',b',hx,h1,h2,_,e2,e1⟩ | ⟨v1,a',hx,h1,e⟩
    ·rw[show td.2=1 by rw[e]] at fin
     exact .inl ⟨_,rfl,x,dx,_,rfl,hx,rfl,x,dx,_,rfl,hx,fin _ (Same.refl _)⟩
    ·rw[show td.2=1 by rw[e]] at fin
     exact .inr (.inl ⟨_,rfl,x,dx,_,rfl,hx,lk1 (by decide +kernel),x,dx,_,rfl,hx,fin _ (Same.refl _)⟩)
    ·rcases hC with rfl | rfl
     ·exact .inr (.inr (.inl ⟨_,rfl,x,dx,_,rfl,hx,lk1 (by decide +kernel),x,dx,t,rfl,hx,t,vs,tds',rfl,.inr (SqT.of ht),hp,h0,by omega,fun M H5 s5 hM hle=>by rw[show 1+M=td.2 by have:=e2 M hM;have:=hle _ e1;omega];exact fin H5 s5⟩))
     ·exact .inr (.inr (.inr (.inl ⟨_,rfl,x,dx,_,rfl,hx,lk1 (by decide +kernel),x,dx,t,rfl,hx,t,vs,tds',rfl,.inr (SqT.of ht),hp,h0,by omega,fun M H5 s5 hM hle=>by rw[show 1+M=td.2 by have:=e2 M hM;have:=hle _ e1;omega];exact fin H5 s5⟩)))
    ·skip
     exact .inr (.inr (.inr (.inr (.inl ⟨_,rfl,x,dx,_,rfl,hx,lk2 (by decide +kernel) (by decide +kernel),x,dx,v1,v2,rfl,hx,fun l hl=>⟨l,[v1,v2],[a',b'],rfl,.inl (SqL.of aaA),.cons (aaX (aaB hl _) m h1) (.cons (aaX (aaB hl _) m h2) .nil),(by show 0<2;decide),(by show 2<=9;decide),fun M H5 s5 hM hle=>by
       have m1:=hle a'.2 (by simp)
       have m2:=hle b'.2 (by simp)
       have m3:M=a'.2∨M=b'.2:=by simpa using hM
       rw[show 1+M=td.2 by omega]
       exact fin H5 ((aaB hl _).trans s5)⟩⟩))))
    ·rw[show td.2=1+a'.2 by rw[e]] at fin
     exact .inr (.inr (.inr (.inr (.inr ⟨_,rfl,x,dx,_,rfl,hx,lk1 (by decide +kernel),x,dx,v1,rfl,hx,fun l hl=>⟨l,[v1],[a'],rfl,.inl (SqL.of aaA),.cons (aaX (aaB hl _) m h1) .nil,(by show 0<1;decide),(by show 1<=9;decide),fun M H5 s5 hM hle=>by
       have m3:M=a'.2:=by simpa using hM
       rw[m3]
       exact fin H5 ((aaB hl _).trans s5)⟩⟩))))
  ·subst hR
   refine⟨D,tds.map Prod.snd,rfl,SqL.of (by rw[hz,Paired.length hbs,bS]),(by rw[aU,←Paired.length hbs];exact h0),fun M hM hle=>⟨_,_,rfl,rfl,q M H2 s2 hM hle⟩⟩
 ·refine .inr ⟨_,rfl,a,rfl,⟨_,hS⟩,arT (xs:=us) (fun i l=>l=((tds.take i).map Prod.snd).map V.int) (by rw[dY];omega) rfl hS (fun i v l D H2 E' F' hv hR hD s2 hz hE hF=>?_) (fun D H2 l hR hD s2 hz=>?_)⟩
  ·subst hR
   obtain⟨td,etd,hb0⟩:=KM.Paired.at hbs hv
   have hb:=aaX s2 n hb0
   have fin:∀H5,Same H2 H5->E' (.int td.2) H5:=fun H5 s5=>hE _ _ s5 (by rw[bK,etd,aZ,aZ];rfl)
   cases n with
   |zero=>exact hb.elim
   |succ m=>
    obtain rfl:=hs m rfl
    obtain⟨x,dx,rfl,hb⟩:=hb
    rcases hb with ⟨e,hx | ⟨r,hx⟩⟩ | ⟨C,t,vs,tds',hC,hx,ht,hp,h0,h8,_,e2,e1⟩ | ⟨v1,v2,a',b',hx,h1,h2,_,e2,e1⟩ | ⟨v1,a',hx,h1,e⟩
    ·rw[show td.2=1 by rw[e]] at fin
     exact .inl ⟨_,rfl,x,dx,_,rfl,hx,rfl,x,dx,_,rfl,hx,fin _ (Same.refl _)⟩
    ·rw[show td.2=1 by rw[e]] at fin
     exact .inr (.inl ⟨_,rfl,x,dx,_,rfl,hx,lk1 (by decide +kernel),x,dx,_,rfl,hx,fin _ (Same.refl _)⟩)
    ·rcases hC with rfl | rfl
     ·exact .inr (.inr (.inl ⟨_,rfl,x,dx,_,rfl,hx,lk1 (by decide +kernel),x,dx,t,rfl,hx,t,vs,tds',rfl,.inr (SqT.of ht),hp,h0,by omega,fun M H5 s5 hM hle=>by rw[show 1+M=td.2 by have:=e2 M hM;have:=hle _ e1;omega];exact fin H5 s5⟩))
     ·exact .inr (.inr (.inr (.inl ⟨_,rfl,x,dx,_,rfl,hx,lk1 (by decide +kernel),x,dx,t,rfl,hx,t,vs,tds',rfl,.inr (SqT.of ht),hp,h0,by omega,fun M H5 s5 hM hle=>by rw[show 1+M=td.2 by have:=e2 M hM;have:=hle _ e1;omega];exact fin H5 s5⟩)))
    ·skip
     exact .inr (.inr (.inr (.inr (.inl ⟨_,rfl,x,dx,_,rfl,hx,lk2 (by decide +kernel) (by decide +kernel),x,dx,v1,v2,rfl,hx,fun l hl=>⟨l,[v1,v2],[a',b'],rfl,.inl (SqL.of aaA),.cons (aaX (aaB hl _) m h1) (.cons (aaX (aaB hl _) m h2) .nil),(by show 0<2;decide),(by show 2<=9;decide),fun M H5 s5 hM hle=>by
       have m1:=hle a'.2 (by simp)
       have m2:=hle b'.2 (by simp)
       have m3:M=a'.2∨M=b'.2:=by simpa using hM
       rw[show 1+M=td.2 by omega]
       exact fin H5 ((aaB hl _).trans s5)⟩⟩))))
    ·rw[show td.2=1+a'.2 by rw[e]] at fin
     exact .inr (.inr (.inr (.inr (.inr ⟨_,rfl,x,dx,_,rfl,hx,lk1 (by decide +kernel),x,dx,v1,rfl,hx,fun l hl=>⟨l,[v1],[a'],rfl,.inl (SqL.of aaA),.cons (aaX (aaB hl _) m h1) .nil,(by show 0<1;decide),(by show 1<=9;decide),fun M H5 s5 hM hle=>by
       have m3:M=a'.2:=by simpa using hM
       rw[m3]
       exact fin H5 ((aaB hl _).trans s5)⟩⟩))))
  ·subst hR
   refine⟨D,tds.map Prod.snd,rfl,SqL.of (by rw[hz,Paired.length hbs,bS]),(by rw[aU,←Paired.length hbs];exact h0),fun M hM hle=>⟨_,_,rfl,rfl,q M H2 s2 hM hle⟩⟩
theorem aqC:Df P w K mg base "depth_of" 1 ["books"] (fun _ _ _ _=>False):=ZZ.b0.dfs ai7 (fun _ _ _ _ h=>h.elim) (fun _ _ _ _ _ _ _ _ _ _ h=>h.elim)
theorem aeP{k0 n:Nat}{sp0:Sp}(hs:∀m,n=m+1->sp0=tyD K aL aQ aM aO aK aP m)(D0:Df P w K mg base "depth_of" k0 ["books"] sp0):Df P w K mg base "depth_of" (k0+2) ["books"] (tyD K aL aQ aM aO aK aP n):=
 apH ZZ hs (amN ZZ) (ao8 ZZ) (aiY ZZ D0) (am2 ZZ D0) (ak2 ZZ D0) (aiF ZZ D0)
theorem ag4:∀n:Nat,Df P w K mg base "depth_of" (2*n+3) ["books"] (tyD K aL aQ aM aO aK aP n)
 |0=>aeP ZZ (fun m h=>absurd h.symm (Nat.succ_ne_zero m)) (aqC ZZ)
 |n+1=>aeP ZZ (fun m h=>congrArg (fun z=>tyD K aL aQ aM aO aK aP z) (bU h)) (ag4 n)
theorem asG:Df P w K mg base "depth_of" 15 ["books"] (aqL K aL aQ aM aO aK aP):=ag4 ZZ 6
theorem agK:Df1 P w K mg base "checked" 16 ["books"] (as7 K aR aL aQ aM aO aK aP):=by
 refine ZZ.e2.dfs1 atH (fun vs H Q E h=>?_) (fun f cdv A outer s H vs Q E hr h=>?_)
 ·obtain⟨_,_,_,rfl,_⟩:=h
  rfl
 obtain⟨a,us,r,rfl,hS,hl,hv,qE,qQ⟩:=h
 refine⟨_,(ssC (sIf (tNo (tVa (eCB aFY ZZ.ef boot_all (aC (ac4 [] [] (iL (v_ 0)) (fun _ _ _ _ _ _=>fsN) (fun _ _ _ _ _ _=>(eCB (cInc (K:=K)) ZZ.ah PyProof.Rows.boot_isinstance (aC (v_ 0) (aC (eGl (v:=.ref aL) ZZ.ag.at_ rfl) aN))))) aN)))) (ss1 (sRz arD ZZ.aq (aC (eSx [110,111,32,98,111,111,107]) aN))) ssN)
   (ssC (sIf (tCm oGt (eD (aq5 ZZ) hr (aC (v_ 0) aN)) (eGl (v:=.int 24) ZZ.df ⟨_,rfl⟩)) (ss1 (sRz arD ZZ.aq (aC (eSx [116,111,111,32,109,97,110,121,32,98,111,111,107,115]) aN))) ssN)
   (ssC (sIf (tCm oGt (eD (asG ZZ) hr (aC (v_ 0) aN)) (eGl (v:=.int 5) ZZ.dg ⟨_,rfl⟩)) (ss1 (sRz arD ZZ.aq (aC (eSx [116,111,111,32,100,101,101,112]) aN))) ssN)
   (ss1 (aaH (eCT cTup ZZ.fc PyProof.Rows.boot_tuple (aC (v_ 0) aN))))))),?_⟩
 obtain⟨bs,hbs,hcase⟩:∃bs,Paired (IsB K aL H) us bs/\((bs.all id=false/\r=none)∨(bs.all id=true/\∃tds,Paired (acD aL aQ aM aO aK aP 6 H) us tds/\0<us.length/\((r=none/\(24<1+(tds.map Prod.fst).sum∨∃m∈tds.map Prod.snd,5<=m))∨∃td,r=some td/\td.1=1+(tds.map Prod.fst).sum/\td.1<=24/\(∀m∈tds.map Prod.snd,m<td.2)/\td.2<=5))):=by
  have all:∀{tds},Paired (acD aL aQ aM aO aK aP 6 H) us tds->∃bs,Paired (IsB K aL H) us bs/\bs.all id=true:=fun hp=>aoK fun v hv=>by
   obtain⟨td,hb⟩:=alV hp v hv
   exact aE3 ⟨ZZ.e6,ZZ.ag.cl,ZZ.e8⟩ ⟨ZZ.fj,ZZ.av.cl,ZZ.fk⟩ ⟨ZZ.es,ZZ.aa.cl,ZZ.eu⟩ ⟨ZZ.fe,ZZ.ad.cl,ZZ.ff⟩ ⟨ZZ.e7,ZZ.ac.cl,ZZ.e9⟩ ⟨ZZ.et,ZZ.ab.cl,ZZ.ev⟩ hb
  cases r with
  |none=>
   rcases hv with ⟨h1,h2⟩ | ⟨tds,hp,h0,hz⟩
   ·obtain⟨bs,hbs,e⟩:=ar5 h1 h2
    exact⟨bs,hbs,.inl ⟨e,rfl⟩⟩
   ·obtain⟨bs,hbs,e⟩:=all hp
    exact⟨bs,hbs,.inr ⟨e,tds,hp,h0,.inl ⟨rfl,hz⟩⟩⟩
  |some td=>
   obtain⟨tds,hp,h0,e1,e2,e3,_,e5⟩:=hv
   obtain⟨bs,hbs,e⟩:=all hp
   exact⟨bs,hbs,.inr ⟨e,tds,hp,h0,.inr ⟨td,rfl,e1,e2,e3,e5⟩⟩⟩
 refine⟨_,rfl,a,rfl,⟨_,hS⟩,acT (xs:=us) (fun i l=>l=(bs.take i).map V.bl) (by rw[dY];omega) rfl hS (fun i v l D H2 E' F' hv hR hD s2 hz hE hF=>?_) (fun D H2 l hR hD s2 hz=>?_)⟩
 ·subst hR
  obtain⟨b,eb,t,ht,hk⟩:=KM.Paired.at hbs hv
  exact⟨_,rfl,v,t,aL,b,rfl,avD s2 ht,hk,hE _ _ (Same.refl _) (by rw[bK,eb,aZ];rfl)⟩
 subst hR
 refine⟨D,bs,rfl,SqL.of (by rw[hz,Paired.length hbs,bS]),_,rfl,?_⟩
 rcases hcase with ⟨e,er⟩ | ⟨e,tds,hp,h0,hc⟩
 ·rw[e]
  exact ab6 ⟨(zL 1),qE er _ s2⟩
 rw[e]
 have ln:=Paired.length hp
 refine abM ⟨_,rfl,a,us,tds,rfl,.inl (s2.seq hS),Paired.mapP hp fun _ _ z=>aaX s2 6 z,hl,fun H3 s3=>⟨_,_,rfl,rfl,_,rfl,ifD (fun c=>?_) (fun c=>?_)⟩⟩
 ·rcases hc with ⟨er,_⟩ | ⟨td,_,e1,e2,_⟩
  ·exact⟨(zL 1),qE er _ (s2.trans s3)⟩
  ·omega
 have s23:=s2.trans s3
 refine⟨_,rfl,a,us,tds,rfl,.inl (s23.seq hS),Paired.mapP hp fun _ _ z=>aaX s23 6 z,h0,hl,fun M H4 s4 hM hle=>⟨_,_,rfl,rfl,_,rfl,ifD (fun c4=>?_) (fun c4=>?_)⟩⟩
 ·rcases hc with ⟨er,_⟩ | ⟨td,_,_,_,e3,e5⟩
  ·exact⟨(zL 1),qE er _ (s23.trans s4)⟩
  ·have:=e3 M hM
   omega
 rcases hc with ⟨er,hz | ⟨m,hm,h5⟩⟩ | ⟨td,er,_⟩
 ·omega
 ·have:=hle m hm
  omega
 exact⟨_,rfl,a,us,rfl,.inl ⟨(s23.trans s4).seq hS,fun t ht=>qQ td er t _ ((s23.trans s4).trans (aaB ht _)) aaA⟩⟩
theorem ad9:Df1 P w K mg base "checked_list" 17 ["books"] (akG K aR aL aQ aM aO aK aP):=by
 refine ZZ.cx.dfs1 ajZ (fun vs H Q E h=>?_) (fun f cdv A outer s H vs Q E hr h=>?_)
 ·obtain⟨_,rfl,_⟩:=h
  rfl
 obtain⟨v,rfl,h⟩:=h
 refine⟨_,(ssC (sIf (tW (wOr (tNo (tVa (eCB cIs ZZ.ah PyProof.Rows.boot_isinstance (aC (v_ 0) (aC (eTy ZZ.di PyProof.Rows.boot_list) aN))))) (anM (tNo (tCh oLe oLe eI (eCB apI ZZ.aj PySem.boot_len (aC (v_ 0) aN)) (eGl (v:=.int 8) ZZ.dh ⟨_,rfl⟩)))))) (ss1 (sRz arD ZZ.aq (aC (eSx [110,111,32,108,105,115,116,32,111,102,32,111,110,101,32,116,111,32,101,105,103,104,116,32,98,111,111,107,115]) aN))) ssN)
   (ss1 (aaH (eD1 (agK ZZ) hr asA (aC (v_ 0) aN))))),?_⟩
 rcases h with ⟨⟨k,hk,nk⟩ | ⟨a,us,rfl,hS,hl,hz⟩,qE⟩ | ⟨a,us,td,rfl,hS,hl,hv,qQ⟩
 ·refine⟨_,rfl,v,.list,k,rfl,(by decide),hk,_,rfl,?_⟩
  have e:Kd.isa k .list=false:=by cases k<;>first | rfl | exact absurd rfl nk
  rw[e]
  exact ab6 (ab6 ⟨(zL 1),qE _ (Same.refl _)⟩)
 ·refine⟨_,rfl,.ref a,.list,.list,rfl,(by decide),.inl ⟨rfl,us,hS⟩,_,rfl,abM ⟨_,rfl,a,us,rfl,.inl hS,_,_,rfl,rfl,_,rfl,?_⟩⟩
  by_cases c1:us.length=0
  ·rw[d8 (show ¬(1:Int)<=((us.length:Nat):Int) by omega)]
   exact abM ⟨_,rfl,ab6 ⟨(zL 1),qE _ (Same.refl _)⟩⟩
  rw[d6 (show (1:Int)<=((us.length:Nat):Int) by omega)]
  refine ab6 ⟨_,_,rfl,rfl,_,rfl,?_⟩
  by_cases c2:us.length=9
  ·rw[d8 (show ¬((us.length:Nat):Int)<=8 by omega)]
   exact ab6 ⟨(zL 1),qE _ (Same.refl _)⟩
  rw[d6 (show ((us.length:Nat):Int)<=8 by omega)]
  exact abM ⟨_,rfl,a,us,none,rfl,hS,hl,hz.resolve_left (by omega),fun _ H' s'=>qE H' s',fun td e=>nomatch e⟩
 ·have h0:0<us.length:=by obtain⟨_,_,h0,_⟩:=hv;exact h0
  refine⟨_,rfl,.ref a,.list,.list,rfl,(by decide),.inl ⟨rfl,us,hS⟩,_,rfl,abM ⟨_,rfl,a,us,rfl,.inl hS,_,_,rfl,rfl,_,rfl,?_⟩⟩
  rw[d6 (show (1:Int)<=((us.length:Nat):Int) by omega)]
  refine ab6 ⟨_,_,rfl,rfl,_,rfl,?_⟩
  rw[d6 (show ((us.length:Nat):Int)<=8 by omega)]
  exact abM ⟨_,rfl,a,us,some td,rfl,hS,by omega,hv,(fun e=>nomatch e),fun _ _ t H' s' ht=>qQ t H' s' ht⟩
theorem alG:DfM1 P w K mg base aQ "__init__" 1 ["self","row"] (alN K aQ aR aA):=by
 refine ZZ.c6.dfs1 amV (fun vs H Q E h=>?_) (fun f cdv A outer s H vs Q E hr h=>?_)
 ·obtain⟨_,_,_,rfl,_⟩:=h
  rfl
 obtain⟨p,dx,v,rfl,hp,h⟩:=h
 refine⟨_,(ssC (sIf (tNo (tVa (eCB cIn ZZ.ah PyProof.Rows.boot_isinstance (aC (v_ 1) (aC (eGl (v:=.ref aA) ZZ.ae.at_ rfl) aN))))) (ss1 (sRz arD ZZ.aq (aC (eSx [110,111,32,114,111,119]) aN))) ssN)
   (ss1 (sFl (v_ 0) (v_ 1)))),?_⟩
 rcases h with ⟨⟨t,ht,hk⟩,qE⟩ | ⟨⟨t,ht,hk⟩,q⟩
 ·exact⟨_,rfl,v,t,aA,false,rfl,ht,hk,_,rfl,ab6 ⟨(zL 1),qE _ (Same.refl _)⟩⟩
 ·exact⟨_,rfl,v,t,aA,true,rfl,ht,hk,_,rfl,abM ⟨_,rfl,_,rfl,p,aQ,dx,_,rfl,hp,ZZ.av.cl,ZZ.b8,(by show 0<1000;decide),q _ rfl⟩⟩
theorem aaF:DfM1 P w K mg base aM "__init__" 18 ["self","books"] (agM K aM aR aL aQ aM aO aK aP):=by
 refine ZZ.b6.dfs1 agT (fun vs H Q E h=>?_) (fun f cdv A outer s H vs Q E hr h=>?_)
 ·obtain⟨_,_,_,rfl,_⟩:=h
  rfl
 obtain⟨p,dx,v,rfl,hp,h⟩:=h
 refine⟨_,(ss1 (sFl (v_ 0) (eD1 (ad9 ZZ) hr asA (aC (v_ 1) aN)))),?_⟩
 rcases h with ⟨hR,qE⟩ | ⟨a,us,td,rfl,hS,hl,hv,q⟩
 ·exact⟨_,rfl,v,rfl,.inl ⟨hR,qE⟩⟩
 ·exact⟨_,rfl,_,rfl,.inr ⟨a,us,td,rfl,hS,hl,hv,fun t H' s' ht=>⟨_,rfl,p,aM,dx,_,rfl,s' _ _ hp,ZZ.aa.cl,ZZ.ak,(by show 0<1000;decide),q t _ aaA (by rw[aaE (fun e=>by rw[e,s' _ _ hp] at ht;cases ht)];exact ht) fun b o hb ne=>by rw[aaE ne];exact s' _ _ hb⟩⟩⟩
theorem aaL:DfM1 P w K mg base aO "__init__" 18 ["self","books"] (aj1 K aO aR aL aQ aM aO aK aP):=by
 refine ZZ.cy.dfs1 ajS (fun vs H Q E h=>?_) (fun f cdv A outer s H vs Q E hr h=>?_)
 ·obtain⟨_,_,_,rfl,_⟩:=h
  rfl
 obtain⟨p,dx,v,rfl,hp,h⟩:=h
 refine⟨_,(ss1 (sFl (v_ 0) (eD1 (ad9 ZZ) hr asA (aC (v_ 1) aN)))),?_⟩
 rcases h with ⟨hR,qE⟩ | ⟨a,us,td,rfl,hS,hl,hv,q⟩
 ·exact⟨_,rfl,v,rfl,.inl ⟨hR,qE⟩⟩
 ·exact⟨_,rfl,_,rfl,.inr ⟨a,us,td,rfl,hS,hl,hv,fun t H' s' ht=>⟨_,rfl,p,aO,dx,_,rfl,s' _ _ hp,ZZ.ad.cl,ZZ.ar,(by show 0<1000;decide),q t _ aaA (by rw[aaE (fun e=>by rw[e,s' _ _ hp] at ht;cases ht)];exact ht) fun b o hb ne=>by rw[aaE ne];exact s' _ _ hb⟩⟩⟩
theorem aa0:DfM1 P w K mg base aK "__init__" 17 ["self","one","other"] (ahS K aK aR aL aQ aM aO aK aP):=by
 refine ZZ.ci.dfs1 ah7 (fun vs H Q E h=>?_) (fun f cdv A outer s H vs Q E hr h=>?_)
 ·obtain⟨_,_,_,_,rfl,_⟩:=h
  rfl
 obtain⟨p,dx,v,u,rfl,hp,h⟩:=h
 refine⟨_,(ssC (ac9 (eD1 (agK ZZ) hr asA (aC (aaZ (aC (v_ 1) (aC (v_ 2) aN))) aN)))
   (ssC (sFl (v_ 0) (v_ 1))
   (ss1 (sFl (v_ 0) (v_ 2))))),?_⟩
 rcases h with ⟨hR,qE⟩ | ⟨td,hv,q⟩
 ·exact⟨_,rfl,_,rfl,(zL 2),fun l hl=>⟨l,[v,u],none,rfl,SqL.of aaA,(by show 2<=9;decide),acI (aaB hl _) hR,fun _ H' s'=>qE H' ((aaB hl _).trans s'),fun td e=>nomatch e⟩⟩
 ·exact⟨_,rfl,_,rfl,(zL 2),fun l hl=>⟨l,[v,u],some td,rfl,SqL.of aaA,(by show 2<=9;decide),acI (aaB hl _) hv,(fun e=>nomatch e),fun _ _ t H' s' ht=>⟨_,rfl,_,rfl,p,aK,dx,_,rfl,(s' _ _ (aaB hl _ _ _ hp)),ZZ.ac.cl,ZZ.aw,(by show 0<1000;decide),_,rfl,_,rfl,p,aK,dx,_,rfl,aaA,ZZ.ac.cl,ZZ.al,(by show 1<1000;decide),q _ aaA fun b o hb ne=>by rw[aaE ne,aaE ne];exact s' _ _ (aaB hl _ _ _ hb)⟩⟩⟩
theorem aaG:DfM1 P w K mg base aP "__init__" 17 ["self","one"] (agH K aP aR aL aQ aM aO aK aP):=by
 refine ZZ.b7.dfs1 agR (fun vs H Q E h=>?_) (fun f cdv A outer s H vs Q E hr h=>?_)
 ·obtain⟨_,_,_,rfl,_⟩:=h
  rfl
 obtain⟨p,dx,v,rfl,hp,h⟩:=h
 refine⟨_,(ssC (ac9 (eD1 (agK ZZ) hr asA (aC (aaZ (aC (v_ 1) aN)) aN)))
   (ss1 (sFl (v_ 0) (v_ 1)))),?_⟩
 rcases h with ⟨hR,qE⟩ | ⟨td,hv,q⟩
 ·exact⟨_,rfl,(zL 1),fun l hl=>⟨l,[v],none,rfl,SqL.of aaA,(by show 1<=9;decide),acI (aaB hl _) hR,fun _ H' s'=>qE H' ((aaB hl _).trans s'),fun td e=>nomatch e⟩⟩
 ·exact⟨_,rfl,(zL 1),fun l hl=>⟨l,[v],some td,rfl,SqL.of aaA,(by show 1<=9;decide),acI (aaB hl _) hv,(fun e=>nomatch e),fun _ _ t H' s' ht=>⟨_,rfl,_,rfl,p,aP,dx,_,rfl,(s' _ _ (aaB hl _ _ _ hp)),ZZ.ab.cl,ZZ.am,(by show 0<1000;decide),q _ aaA fun b o hb ne=>by rw[aaE ne];exact s' _ _ (aaB hl _ _ _ hb)⟩⟩⟩
theorem ahH:DfM P w K mg base aA "times" 1 ["self"] (apV K aA):=by
 refine ZZ.d6.dfs apK (fun vs H Q E h=>?_) (fun f cdv A outer s H vs Q E hr h=>?_)
 ·obtain⟨_,_,_,_,_,_,_,_,rfl,_⟩:=h
  rfl
 obtain⟨p,dx,m0,m1,m3,tm,dv,wv,rfl,hp,q⟩:=h
 refine⟨_,(ss1 (aaH (eFl (v_ 0)))),?_⟩
 exact⟨_,rfl,p,aA,dx,_,_,rfl,hp,ZZ.ae.cl,ZZ.ap,afG ..,q⟩
theorem alO:DfM P w K mg base aA "on_days" 7 ["self","kind"] (al8 K aA aD aF aG aI aE aB aH aJ):=by
 refine ZZ.c7.dfs sc_Row_on_days (fun vs H Q E h=>?_) (fun f cdv A outer s H vs Q E hr h=>?_)
 ·obtain⟨_,_,_,_,_,_,_,_,_,_,_,rfl,_⟩:=h
  rfl
 obtain⟨p,dx,m0,m1,m3,tm,k,dv,wv,kd,kw,rfl,hp,hk,hm,hd,hw,q⟩:=h
 refine⟨_,(ssK (aaP 2 (eMe ZZ.ae.cl (aeF ZZ) hr (v_ 0) (aC (v_ 1) aN)) sc_Row_on_days.nd)
   (ssK (aaP 3 (eIx xT (eD (ac1 ZZ) hr (aC (v_ 1) aN)) eI) sc_Row_on_days.nd)
   (ss1 (aaH (ac4 ["days","self"] [2,0] (iR2 ZZ.ai (aC eI (aC (eOp ab1 (v_ 3) eI) aN))) (fun _ _ _ _ _ _=>fsN) (fun _ _ _ _ _ _=>(eIf (tVa (eD (atJ ZZ) hr (aC (v_ 1) (aC (v_ 0) aN)))) (eFlc (K:=K) (v_ 2)) eI))))))),?_⟩
 refine⟨fun σ' H'=>σ'=[some (.ref p),some (.int k),some (.int (dIn m3 kd kw k)),none]/\Same H H',⟨_,rfl,p,dx,_,rfl,hp,ad8 ..,_,rfl,p,dx,m0,m1,m3,tm,k,dv,wv,kd,kw,rfl,hp,hk,hm,hd,hw,fun H1 s1=>⟨rfl,s1⟩⟩,?_⟩
 rintro σ' H1 ⟨rfl,s1⟩
 have ml:=(afJ hk.1 hk.2).2.1
 refine⟨fun σ' H'=>σ'=[some (.ref p),some (.int k),some (.int (dIn m3 kd kw k)),some (.int (lnA k))]/\Same H1 H',⟨_,rfl,k,rfl,hk,fun t H2 s2 h2=>⟨t,_,_,_,rfl,rfl,SqT.of (by rw[ahQ] at h2;exact h2),rfl,rfl,s2⟩⟩,?_⟩
 rintro σ' H2 ⟨rfl,s2⟩
 refine⟨_,rfl,_,_,rfl,rfl,_,_,rfl,⟨by decide,by decide,by omega,by omega⟩,adV (fun i l=>l=((List.range i).map (acO tm m3 kd kw k)).map V.int) (by show (lnA k+1-1).toNat<=sizeLine;rw[dY];omega) rfl ?_ ?_⟩
 ·intro i l D H3 E' F' hi hR hD s3 hl hE hF
  subst hR
  have hp3:=(s1.trans (s2.trans s3)) _ _ hp
  have et:(1+(i:Int)).toNat=i+1:=by omega
  have fin:∀v:Int,v=acO tm m3 kd kw k i->E' (.int v) H3:=fun v ev=>hE _ _ (Same.refl _) (by rw[ev,cC,aZ,aZ];rfl)
  refine⟨_,rfl,_,rfl,dIn m3 kd kw k,_,rfl,⟨ay8 hd hw hk.1 hk.2,by omega⟩,_,rfl,?_⟩
  rw[et]
  by_cases c:tb (dIn m3 kd kw k) (i+1)=true
  ·rw[c]
   exact ab6 ⟨_,rfl,p,aA,dx,_,_,rfl,hp3,ZZ.ae.cl,ZZ.ap,afG ..,fin tm (by unfold acO;rw[if_pos c])⟩
  ·rw[show tb (dIn m3 kd kw k) (i+1)=false by simpa using c]
   exact abM (fin 0 (by unfold acO;rw[if_neg c]))
 ·intro D H3 l hR hD s3 hl
  subst hR
  refine q D H3 (s1.trans (s2.trans s3)) ?_
  rw[hl]
  unfold aa2
  rw[show (lnA k+1-1).toNat=(lnA k).toNat by omega]
theorem acF:Df P w K mg base "same_each_day" 4 ["times","kind"] (ah3 K):=by
 refine ZZ.cj.dfs ah5 (fun vs H Q E h=>?_) (fun f cdv A outer s H vs Q E hr h=>?_)
 ·obtain⟨_,_,rfl,_⟩:=h
  rfl
 obtain⟨i,k,rfl,hk,q⟩:=h
 refine⟨_,(ss1 (aaH (eOp aCL (aaZ (aC (v_ 0) aN)) (eIx xT (eD (ac1 ZZ) hr (aC (v_ 1) aN)) eI)))),?_⟩
 have ml:=(afJ hk.1 hk.2).2.1
 refine⟨_,rfl,(zL 1),fun l hl=>⟨_,rfl,k,rfl,hk,fun t H2 s2 h2=>⟨t,_,_,_,rfl,rfl,SqT.of (by rw[ahQ] at h2;exact h2),rfl,l,_,_,rfl,rfl,s2 _ _ aaA,(by omega),(by omega),(by rw[dY];show 1*_<=_;omega),fun p hp=>q p _ ((aaB hl _).trans (s2.trans (aaB hp _))) ?_⟩⟩⟩
 rw[ayB]
 exact aaA
theorem ahK:Df P w K mg base "all_times" 1 [] (aqI K):=by
 refine ZZ.d7.dfs ao1 (fun vs H Q E h=>?_) (fun f cdv A outer s H vs Q E hr h=>?_)
 ·obtain⟨rfl,_⟩:=h
  rfl
 obtain⟨rfl,q⟩:=h
 refine⟨_,(ss1 (aaH (eOp adN (eOp ahV eI (eGl (v:=.int 1440) ZZ.c2 ⟨_,rfl⟩)) eI))),?_⟩
 exact⟨_,_,rfl,rfl,⟨by decide,by decide,by decide⟩,_,_,rfl,rfl,q⟩
theorem aiB{k0 n:Nat}:DfM P w K mg base aL "on_days" (k0+31) ["self","kind"] (spW (fun _=>wB aL) (n+1)):=by
 refine ZZ.bh.dfs aeC (fun vs H Q E h=>?_) (fun fz cdv A outer s H vs Q E hr h=>?_)
 ·obtain⟨m,x,k,f,_,rfl,_⟩:=h
  rfl
 obtain⟨m,x,k,f,en,rfl,hk,hb,q⟩:=h
 obtain rfl:=bU en
 obtain⟨dx,hx,rfl⟩:=hb
 refine⟨_,(ss1 (aaH (eD (hk:=by omega) (acF ZZ) hr (aC eI (aC (v_ 1) aN))))),?_⟩
 exact⟨_,rfl,0,k,rfl,hk,q⟩
theorem amS{k0:Nat}:DfM P w K mg base aL "on_days" (k0+1) ["self","kind"] (spW (fun _=>wB aL) 0):=ZZ.bh.dfs aeC (fun vs H Q E h=>by obtain⟨m,x,k,f,e,_⟩:=h;cases e) (fun fz cdv A outer s H vs Q E hr h=>by obtain⟨m,x,k,f,e,_⟩:=h;cases e)
theorem ak8{k0 n:Nat}:DfM P w K mg base aQ "on_days" (k0+31) ["self","kind"] (spW (fun _=>wO (⟨aD,aF,aG,aI,aE,aB,aH,aJ⟩:Cs) aA aQ) (n+1)):=by
 refine ZZ.bo.dfs af0 (fun vs H Q E h=>?_) (fun fz cdv A outer s H vs Q E hr h=>?_)
 ·obtain⟨m,x,k,f,_,rfl,_⟩:=h
  rfl
 obtain⟨m,x,k,f,en,rfl,hk,hb,q⟩:=h
 obtain rfl:=bU en
 obtain⟨dx,r,hx,p,dp,m0,m1,m3,tm,dv,wv,kd,kw,rfl,hp,h3,hd,hw,rfl⟩:=hb
 refine⟨_,(ss1 (aaH (eMe (hk:=by omega) ZZ.ae.cl (alO ZZ) hr (eFl (v_ 0)) (aC (v_ 1) aN)))),?_⟩
 exact⟨_,rfl,x,aQ,dx,_,_,rfl,hx,ZZ.av.cl,ZZ.b8,rfl,p,dp,_,rfl,hp,akI ..,_,rfl,p,dp,m0,m1,m3,tm,k,dv,wv,kd,kw,rfl,hp,hk,h3,hd,hw,q⟩
theorem aoX{k0:Nat}:DfM P w K mg base aQ "on_days" (k0+1) ["self","kind"] (spW (fun _=>wO (⟨aD,aF,aG,aI,aE,aB,aH,aJ⟩:Cs) aA aQ) 0):=ZZ.bo.dfs af0 (fun vs H Q E h=>by obtain⟨m,x,k,f,e,_⟩:=h;cases e) (fun fz cdv A outer s H vs Q E hr h=>by obtain⟨m,x,k,f,e,_⟩:=h;cases e)
theorem agW{k0 n:Nat}(M0:Mo P w K mg base (⟨aD,aF,aG,aI,aE,aB,aH,aJ⟩:Cs) aA aL aQ aM aO aK aP (k0+30) n):DfM P w K mg base aM "on_days" (k0+31) ["self","kind"] (spW (fun m H=>wJ orF aM (acN (⟨aD,aF,aG,aI,aE,aB,aH,aJ⟩:Cs) aA aL aQ aM aO aK aP m H) H) (n+1)):=by
 refine ZZ.a6.dfs sc_Joined_on_days (fun vs H Q E h=>?_) (fun fz cdv A outer s H vs Q E hr h=>?_)
 ·obtain⟨m,x,k,f,_,rfl,_⟩:=h
  rfl
 obtain⟨m,x,k,f,en,rfl,hk,hb,q⟩:=h
 obtain rfl:=bU en
 obtain⟨dx,t,vs,fs,hx,ht,hp,rfl⟩:=hb
 refine⟨_,(ssK (aaP 2 (eD (hk:=by omega) (acF ZZ) hr (aC eI (aC (v_ 1) aN))) sc_Joined_on_days.nd)
   (ssC (ah9 (iT (eFl (v_ 0))) (gN 3 sc_Joined_on_days.nd) (ss1 (axO 2 ["times","others"] [] [] (iZ ZZ.cb (v_ 2) (eMo M0 hr (v_ 3) awK (v_ 1))) (fun _ _ _ _ _ _=>aBV (K:=K) (n:=2) (gsC (gN 0 (show ((["times","others"]:List Str)++([]:List Str)).Nodup by decide +kernel)) (gsC (gN 1 (show ((["times","others"]:List Str)++([]:List Str)).Nodup by decide +kernel)) gsN))) (fun _ _ _ _ _ _=>fsN) (fun _ _ _ _ _ _=>(eOp oOr (v_ 0) (v_ 1))) sc_Joined_on_days.nd)) PassesOwn.never)
   (ss1 (aaH (v_ 2))))),?_⟩
 refine⟨fun σ' H'=>∃D,σ'=[some (.ref x),some (.int k),some (.ref D),none]/\Same H H'/\H' D=some (.lst ((aa2 (orF []) k).map V.int)),?first,?_⟩
 case first=>exact⟨_,rfl,0,k,rfl,hk,fun D H1 s1 h1=>⟨D,rfl,s1,h1⟩⟩
 rintro σ' H1 ⟨D,rfl,s1,hD⟩
 refine⟨_,rfl,x,aM,dx,_,_,rfl,s1 _ _ hx,ZZ.aa.cl,ZZ.ak,rfl,t,rfl,⟨_,SqT.of (s1 _ _ ht)⟩,ahG (K:=K) (a:=t) (xs:=vs) (fun i σ H2=>∃(D:Addr) (v3:Option V),σ=[some (.ref x),some (.int k),some (.ref D),v3]/\Same H1 H2/\H2 D=some (.lst ((aa2 (orF (fs.take i)) k).map V.int))) ⟨D,_,rfl,Same.refl _,hD⟩ (fun i σ H2 _ ⟨_,_,_,s2,_⟩=>SqT.of ((s1.trans s2) _ _ ht)) ?turn ?done⟩
 case done=>
  rintro σ H2 ⟨D,v3,rfl,s2,hD⟩
  rw[Paired.length hp,bS] at hD
  exact⟨_,rfl,q D H2 (s1.trans s2) hD⟩
 case turn=>
  rintro i v σ H2 hv ⟨D,v3,rfl,s2,hD⟩
  obtain⟨g,eg,hg⟩:=KM.Paired.at hp hv
  refine⟨_,rfl,v,rfl,k,g,rfl,hk,abV (s1.trans s2) n hg,fun D2 H3 s3 h3=>⟨D,D2,rfl,rfl,⟨_,SqL.of (s3 _ _ hD)⟩,⟨_,SqL.of h3⟩,amL (xs:=(aa2 (orF (fs.take i)) k).map V.int) (ys:=(aa2 g k).map V.int) (fun j l=>l=((List.range j).map (orF (fs.take (i+1)) k)).map V.int) (by rw[aU,abT,dY];have:=aoA hk.1 hk.2;omega) (by rw[aU,aU,abT,abT]) rfl (SqL.of (s3 _ _ hD)) (SqL.of h3) (fun j a b l D3 H4 E' F' ha hb hR hD3 s4 hl hE hF=>?_) (fun D3 H4 l hR hD3 s4 hl=>?_)⟩⟩
  ·subst hR
   obtain⟨rfl,_⟩:=ajI ha
   obtain⟨rfl,_⟩:=ajI hb
   refine⟨_,rfl,_,rfl,_,_,rfl,rfl,hE _ _ (Same.refl _) ?_⟩
   rw[cC,aZ,aZ]
   show _=_++[V.int (orF (fs.take (i+1)) k j)]
   rw[orFs eg]
  ·subst hR
   exact⟨D3,_,rfl,s2.trans (s3.trans s4),by rw[hl,aU,abT];rfl⟩
theorem ahX{k0:Nat}:DfM P w K mg base aM "on_days" (k0+1) ["self","kind"] (spW (fun m H=>wJ orF aM (acN (⟨aD,aF,aG,aI,aE,aB,aH,aJ⟩:Cs) aA aL aQ aM aO aK aP m H) H) 0):=ZZ.a6.dfs sc_Joined_on_days (fun vs H Q E h=>by obtain⟨m,x,k,f,e,_⟩:=h;cases e) (fun fz cdv A outer s H vs Q E hr h=>by obtain⟨m,x,k,f,e,_⟩:=h;cases e)
theorem ajX{k0 n:Nat}(M0:Mo P w K mg base (⟨aD,aF,aG,aI,aE,aB,aH,aJ⟩:Cs) aA aL aQ aM aO aK aP (k0+30) n):DfM P w K mg base aO "on_days" (k0+31) ["self","kind"] (spW (fun m H=>wJ anF aO (acN (⟨aD,aF,aG,aI,aE,aB,aH,aJ⟩:Cs) aA aL aQ aM aO aK aP m H) H) (n+1)):=by
 refine ZZ.bl.dfs sc_Met_on_days (fun vs H Q E h=>?_) (fun fz cdv A outer s H vs Q E hr h=>?_)
 ·obtain⟨m,x,k,f,_,rfl,_⟩:=h
  rfl
 obtain⟨m,x,k,f,en,rfl,hk,hb,q⟩:=h
 obtain rfl:=bU en
 obtain⟨dx,t,vs,fs,hx,ht,hp,rfl⟩:=hb
 refine⟨_,(ssK (aaP 2 (eD (hk:=by omega) (acF ZZ) hr (aC (eD0 (hk:=by omega) (ahK ZZ) hr) (aC (v_ 1) aN))) sc_Met_on_days.nd)
   (ssC (ah9 (iT (eFl (v_ 0))) (gN 3 sc_Met_on_days.nd) (ss1 (axO 2 ["times","others"] [] [] (iZ ZZ.cb (v_ 2) (eMo M0 hr (v_ 3) awK (v_ 1))) (fun _ _ _ _ _ _=>aBV (K:=K) (n:=2) (gsC (gN 0 (show ((["times","others"]:List Str)++([]:List Str)).Nodup by decide +kernel)) (gsC (gN 1 (show ((["times","others"]:List Str)++([]:List Str)).Nodup by decide +kernel)) gsN))) (fun _ _ _ _ _ _=>fsN) (fun _ _ _ _ _ _=>(eOp aoS (v_ 0) (v_ 1))) sc_Met_on_days.nd)) PassesOwn.never)
   (ss1 (aaH (v_ 2))))),?_⟩
 refine⟨fun σ' H'=>∃D,σ'=[some (.ref x),some (.int k),some (.ref D),none]/\Same H H'/\H' D=some (.lst ((aa2 (anF []) k).map V.int)),?first,?_⟩
 case first=>exact⟨rfl,_,rfl,allT,k,rfl,hk,fun D H1 s1 h1=>⟨D,rfl,s1,h1⟩⟩
 rintro σ' H1 ⟨D,rfl,s1,hD⟩
 refine⟨_,rfl,x,aO,dx,_,_,rfl,s1 _ _ hx,ZZ.ad.cl,ZZ.ar,rfl,t,rfl,⟨_,SqT.of (s1 _ _ ht)⟩,ahG (K:=K) (a:=t) (xs:=vs) (fun i σ H2=>∃(D:Addr) (v3:Option V),σ=[some (.ref x),some (.int k),some (.ref D),v3]/\Same H1 H2/\H2 D=some (.lst ((aa2 (anF (fs.take i)) k).map V.int))) ⟨D,_,rfl,Same.refl _,hD⟩ (fun i σ H2 _ ⟨_,_,_,s2,_⟩=>SqT.of ((s1.trans s2) _ _ ht)) ?turn ?done⟩
 case done=>
  rintro σ H2 ⟨D,v3,rfl,s2,hD⟩
  rw[Paired.length hp,bS] at hD
  exact⟨_,rfl,q D H2 (s1.trans s2) hD⟩
 case turn=>
  rintro i v σ H2 hv ⟨D,v3,rfl,s2,hD⟩
  obtain⟨g,eg,hg⟩:=KM.Paired.at hp hv
  refine⟨_,rfl,v,rfl,k,g,rfl,hk,abV (s1.trans s2) n hg,fun D2 H3 s3 h3=>⟨D,D2,rfl,rfl,⟨_,SqL.of (s3 _ _ hD)⟩,⟨_,SqL.of h3⟩,amL (xs:=(aa2 (anF (fs.take i)) k).map V.int) (ys:=(aa2 g k).map V.int) (fun j l=>l=((List.range j).map (anF (fs.take (i+1)) k)).map V.int) (by rw[aU,abT,dY];have:=aoA hk.1 hk.2;omega) (by rw[aU,aU,abT,abT]) rfl (SqL.of (s3 _ _ hD)) (SqL.of h3) (fun j a b l D3 H4 E' F' ha hb hR hD3 s4 hl hE hF=>?_) (fun D3 H4 l hR hD3 s4 hl=>?_)⟩⟩
  ·subst hR
   obtain⟨rfl,_⟩:=ajI ha
   obtain⟨rfl,_⟩:=ajI hb
   refine⟨_,rfl,_,rfl,_,_,rfl,rfl,hE _ _ (Same.refl _) ?_⟩
   rw[cC,aZ,aZ]
   show _=_++[V.int (anF (fs.take (i+1)) k j)]
   rw[anFs eg]
  ·subst hR
   exact⟨D3,_,rfl,s2.trans (s3.trans s4),by rw[hl,aU,abT];rfl⟩
theorem amZ{k0:Nat}:DfM P w K mg base aO "on_days" (k0+1) ["self","kind"] (spW (fun m H=>wJ anF aO (acN (⟨aD,aF,aG,aI,aE,aB,aH,aJ⟩:Cs) aA aL aQ aM aO aK aP m H) H) 0):=ZZ.bl.dfs sc_Met_on_days (fun vs H Q E h=>by obtain⟨m,x,k,f,e,_⟩:=h;cases e) (fun fz cdv A outer s H vs Q E hr h=>by obtain⟨m,x,k,f,e,_⟩:=h;cases e)
theorem aiI{k0 n:Nat}(M0:Mo P w K mg base (⟨aD,aF,aG,aI,aE,aB,aH,aJ⟩:Cs) aA aL aQ aM aO aK aP (k0+30) n):DfM P w K mg base aK "on_days" (k0+31) ["self","kind"] (spW (fun m H=>wL aK (acN (⟨aD,aF,aG,aI,aE,aB,aH,aJ⟩:Cs) aA aL aQ aM aO aK aP m H) H) (n+1)):=by
 refine ZZ.bi.dfs ad7 (fun vs H Q E h=>?_) (fun fz cdv A outer s H vs Q E hr h=>?_)
 ·obtain⟨m,x,k,f,_,rfl,_⟩:=h
  rfl
 obtain⟨m,x,k,f,en,rfl,hk,hb,q⟩:=h
 obtain rfl:=bU en
 obtain⟨dx,v1,v2,a,b,hx,h1,h2,rfl⟩:=hb
 refine⟨_,(ss1 (aaH (aw0 ["times","others"] [] [] (iZ ZZ.cb (eMo M0 hr (eFl (v_ 0)) (aER awK) (v_ 1)) (eMo M0 hr (eFl (v_ 0)) (aER awK) (v_ 1))) (fun _ _ _ _ _ _=>aBV (K:=K) (n:=2) (gsC (gN 0 (show ((["times","others"]:List Str)++([]:List Str)).Nodup by decide +kernel)) (gsC (gN 1 (show ((["times","others"]:List Str)++([]:List Str)).Nodup by decide +kernel)) gsN))) (fun _ _ _ _ _ _=>fsN) (fun _ _ _ _ _ _=>(eOp aoS (v_ 0) (eUn oInv (v_ 1))))))),?_⟩
 refine⟨_,rfl,x,aK,dx,_,_,rfl,hx,ZZ.ac.cl,ZZ.aw,rfl,k,a,rfl,hk,h1,fun D1 H1 s1 e1=>⟨_,rfl,x,aK,dx,_,_,rfl,s1 _ _ hx,ZZ.ac.cl,ZZ.al,rfl,k,b,rfl,hk,abV s1 n h2,fun D2 H2 s2 e2=>⟨D1,D2,rfl,rfl,⟨_,SqL.of (s2 _ _ e1)⟩,⟨_,SqL.of e2⟩,amL (xs:=(aa2 a k).map V.int) (ys:=(aa2 b k).map V.int) (fun j l=>l=((List.range j).map (fun j=>Builtin.bitAnd (a k j) (Builtin.bitNot (b k j)))).map V.int) (by rw[aU,abT,dY];have:=aoA hk.1 hk.2;omega) (by rw[aU,aU,abT,abT]) rfl (SqL.of (s2 _ _ e1)) (SqL.of e2) (fun j u v l D3 H4 E' F' ha hb hR hD3 s4 hl hE hF=>?_) (fun D3 H4 l hR hD3 s4 hl=>?_)⟩⟩⟩
 ·subst hR
  obtain⟨rfl,_⟩:=ajI ha
  obtain⟨rfl,_⟩:=ajI hb
  refine⟨_,rfl,_,rfl,_,rfl,_,_,rfl,rfl,hE _ _ (Same.refl _) ?_⟩
  rw[cC,aZ,aZ]
  rfl
 ·subst hR
  exact q D3 H4 (s1.trans (s2.trans s4)) (by rw[hl,aU,abT];rfl)
theorem alA{k0:Nat}:DfM P w K mg base aK "on_days" (k0+1) ["self","kind"] (spW (fun m H=>wL aK (acN (⟨aD,aF,aG,aI,aE,aB,aH,aJ⟩:Cs) aA aL aQ aM aO aK aP m H) H) 0):=ZZ.bi.dfs ad7 (fun vs H Q E h=>by obtain⟨m,x,k,f,e,_⟩:=h;cases e) (fun fz cdv A outer s H vs Q E hr h=>by obtain⟨m,x,k,f,e,_⟩:=h;cases e)
theorem agL{k0 n:Nat}(M0:Mo P w K mg base (⟨aD,aF,aG,aI,aE,aB,aH,aJ⟩:Cs) aA aL aQ aM aO aK aP (k0+30) n):DfM P w K mg base aP "on_days" (k0+31) ["self","kind"] (spW (fun m H=>wT aP (acN (⟨aD,aF,aG,aI,aE,aB,aH,aJ⟩:Cs) aA aL aQ aM aO aK aP m H) H) (n+1)):=by
 refine ZZ.a7.dfs ac3 (fun vs H Q E h=>?_) (fun fz cdv A outer s H vs Q E hr h=>?_)
 ·obtain⟨m,x,k,f,_,rfl,_⟩:=h
  rfl
 obtain⟨m,x,k,f,en,rfl,hk,hb,q⟩:=h
 obtain rfl:=bU en
 obtain⟨dx,v1,a,hx,h1,rfl⟩:=hb
 refine⟨_,(ss1 (aaH (ac4 [] [] (iL (eMo M0 hr (eFl (v_ 0)) (aER awK) (v_ 1))) (fun _ _ _ _ _ _=>fsN) (fun _ _ _ _ _ _=>(eOp oXor (eD0 (hk:=by omega) (ahK ZZ) hr) (v_ 0)))))),?_⟩
 refine⟨_,rfl,x,aP,dx,_,_,rfl,hx,ZZ.ab.cl,ZZ.am,rfl,k,a,rfl,hk,h1,fun D1 H1 s1 e1=>⟨D1,rfl,⟨_,SqL.of e1⟩,acT (xs:=(aa2 a k).map V.int) (fun j l=>l=((List.range j).map (fun j=>Builtin.bitXor allT (a k j))).map V.int) (by rw[aU,abT,dY];have:=aoA hk.1 hk.2;omega) rfl (SqL.of e1) (fun j u l D3 H4 E' F' ha hR hD3 s4 hl hE hF=>?_) (fun D3 H4 l hR hD3 s4 hl=>?_)⟩⟩
 ·subst hR
  obtain⟨rfl,_⟩:=ajI ha
  refine⟨rfl,_,rfl,_,_,rfl,rfl,hE _ _ (Same.refl _) ?_⟩
  rw[cC,aZ,aZ]
  rfl
 ·subst hR
  exact q D3 H4 (s1.trans s4) (by rw[hl,aU,abT];rfl)
theorem aiW{k0:Nat}:DfM P w K mg base aP "on_days" (k0+1) ["self","kind"] (spW (fun m H=>wT aP (acN (⟨aD,aF,aG,aI,aE,aB,aH,aJ⟩:Cs) aA aL aQ aM aO aK aP m H) H) 0):=ZZ.a7.dfs ac3 (fun vs H Q E h=>by obtain⟨m,x,k,f,e,_⟩:=h;cases e) (fun fz cdv A outer s H vs Q E hr h=>by obtain⟨m,x,k,f,e,_⟩:=h;cases e)
theorem arR{k0 n:Nat}(M0:Mo P w K mg base (⟨aD,aF,aG,aI,aE,aB,aH,aJ⟩:Cs) aA aL aQ aM aO aK aP (k0+30) n):Mo P w K mg base (⟨aD,aF,aG,aI,aE,aB,aH,aJ⟩:Cs) aA aL aQ aM aO aK aP (k0+31) (n+1):=⟨ZZ.ag.cl,ZZ.av.cl,ZZ.aa.cl,ZZ.ad.cl,ZZ.ac.cl,ZZ.ab.cl,aiB ZZ,ak8 ZZ,agW ZZ M0,ajX ZZ M0,aiI ZZ M0,agL ZZ M0⟩
theorem anY:∀n:Nat,Mo P w K mg base (⟨aD,aF,aG,aI,aE,aB,aH,aJ⟩:Cs) aA aL aQ aM aO aK aP (n+30) n
 |0=>⟨ZZ.ag.cl,ZZ.av.cl,ZZ.aa.cl,ZZ.ad.cl,ZZ.ac.cl,ZZ.ab.cl,amS ZZ,aoX ZZ,ahX ZZ,amZ ZZ,alA ZZ,aiW ZZ⟩
 |n+1=>by
  have:=arR ZZ (anY n)
  rwa [show n+31=n+1+30 by omega] at this
theorem abN:Df P w K mg base "_law_cell_at" 1 ["_law_script","_law_k"] (akE K):=by
 refine ZZ.cz.dfs akA (fun vs H Q E h=>?_) (fun f cdv A outer s H vs Q E hr h=>?_)
 ·obtain⟨_,_,rfl,_⟩:=h
  rfl
 obtain⟨a,k,rfl,⟨ns,hS⟩,⟨h0,h9⟩,q⟩:=h
 refine⟨_,(ssC (sIf (tCm oLt (v_ 1) (eCB apI ZZ.aj PySem.boot_len (aC (v_ 0) aN))) (ss1 (aaH (eIx xL (v_ 0) (v_ 1)))) ssN)
   (ss1 (aaH (eOp adS (eOp amQ (eOp aEO (eOp ab1 (v_ 1) eI) eI) eI) eI)))),?_⟩
 refine⟨_,rfl,_,rfl,a,_,rfl,.inl hS,_,_,rfl,rfl,_,rfl,?_⟩
 refine ifD (fun c=>?_) (fun c=>?_)
 ·rw[aU] at c
  have hk:k.toNat<ns.length:=by omega
  have ek:k=((k.toNat:Nat):Int):=by omega
  have e:atI (ns.map V.int) k=some (.int ns[k.toNat]):=by
   have z:atI (ns.map V.int) ((k.toNat:Nat):Int)=some (.int ns[k.toNat]):=adU (by rw[bE,cH hk];rfl)
   rw[←ek] at z
   exact z
  refine⟨_,rfl,_,rfl,a,_,_,_,rfl,rfl,hS,e,?_⟩
  exact q _
 ·refine⟨_,rfl,_,_,rfl,rfl,_,_,rfl,rfl,⟨by decide,by decide,(by show (k+2).natAbs<2^64;omega)⟩,_,_,rfl,rfl,.inr ⟨by decide,by decide⟩,_,_,rfl,rfl,(by show (0:Int)<15485863;decide),?_⟩
  exact q _
theorem apM:Df P w K mg base "_law_stir" 1 ["_law_number"] (ap0 K):=by
 refine ZZ.d8.dfs sc__law_stir (fun vs H Q E h=>?_) (fun f cdv A outer s H vs Q E hr h=>?_)
 ·obtain⟨_,rfl,_⟩:=h
  rfl
 obtain⟨n,rfl,q⟩:=h
 refine⟨_,(ssC (aaP 1 (eOp adS (eOp amQ (eOp ab1 (eOp adS (v_ 0) (eOp aEO eI eI)) eI) eI) eI) sc__law_stir.nd)
   (ssC (aaP 2 (eOp adS (eOp amQ (v_ 1) (eOp ab1 (eOp adS (v_ 1) eI) eI)) eI) sc__law_stir.nd)
   (ss1 (aaH (eOp adS (eOp amQ (v_ 2) (eOp ab1 (eOp adS (v_ 2) eI) eI)) eI))))),?_⟩
 refine⟨_,rfl,_,_,rfl,rfl,⟨by decide,by decide,by decide⟩,_,_,rfl,rfl,(by rw[aHE];show (0:Int)<_;decide),_,_,rfl,rfl,_,_,rfl,rfl,.inr ⟨by decide,by decide⟩,_,_,rfl,rfl,(by show (0:Int)<4294967291;decide),?_⟩
 refine⟨_,rfl,_,rfl,_,_,rfl,rfl,(by show (0:Int)<65521;decide),_,_,rfl,rfl,_,_,rfl,rfl,aO5 (by decide) (by decide),_,_,rfl,rfl,(by show (0:Int)<999999937;decide),?_⟩
 refine⟨_,rfl,_,rfl,_,_,rfl,rfl,(by show (0:Int)<32749;decide),_,_,rfl,rfl,_,_,rfl,rfl,aO5 (by decide) (by decide),_,_,rfl,rfl,(by show (0:Int)<2147483629;decide),?_⟩
 exact q _ (c6 _ (by decide)) (c7 _ (by decide))
theorem acA:Df P w K mg base "_law_digits" 2 ["_law_cell","_law_sizes","_law_mixed"] (alL K):=by
 refine ZZ.c8.dfs sc__law_digits (fun vs H Q E h=>?_) (fun f cdv A outer s H vs Q E hr h=>?_)
 ·obtain⟨_,_,_,_,rfl,_⟩:=h
  rfl
 obtain⟨c,a,b,ss,rfl,hS,hz,hl,q⟩:=h
 refine⟨_,(ssC (aaP 3 (aaZ aN) sc__law_digits.nd)
   (ssC (aaP 2 (eOr (v_ 2) (av3 (aiQ oLt (eCB cAbs ZZ.fo PyProof.Rows.boot_abs (aC (v_ 0) aN)) (eOp aEO eI eI)))) sc__law_digits.nd)
   (ssC (ah9 (iL (v_ 1)) (gN 4 sc__law_digits.nd) (ss1 (sIf (tVa (v_ 2)) (ssC (aaP 0 (eD (apM ZZ) hr (aC (v_ 0) aN)) sc__law_digits.nd)
   (ss1 (ac9 (aeE (v_ 3) (eOp adS (eOp av5 (v_ 0) eI) (v_ 4)))))) (ssC (ac9 (aeE (v_ 3) (eOp adS (v_ 0) (v_ 4))))
   (ss1 (aaP 0 (eOp av5 (v_ 0) (v_ 4)) sc__law_digits.nd))))) PassesOwn.never)
   (ss1 (aaH (v_ 3)))))),?_⟩
 refine⟨(zL 0),fun fl hfl=>?_⟩
 refine⟨_,rfl,_,rfl,aE8 (fun _=>?_) (fun _=>⟨_,rfl,_,rfl,_,_,rfl,rfl,⟨by decide,by decide,by decide⟩,_,_,rfl,rfl,?_⟩)⟩
 all_goals
  refine⟨_,rfl,a,rfl,⟨_,(aaB hfl _).seq hS⟩,aeV (K:=K) (a:=a) (xs:=ss.map V.int) (fun i σ H2=>∃(c':Int) (b':Bool) (u:Option V) (ds:List Int),σ=[some (.int c'),some (.ref a),some (.bl b'),some (.ref fl),u]/\Same H H2/\H2 fl=some (.lst (ds.map V.int))/\Digs ds (ss.take i)) ⟨_,_,_,[],rfl,aaB hfl _,aaA,.nil⟩ (fun i σ H2 _ ⟨_,_,_,_,_,s2,_⟩=>s2.seq hS) ?_ ?_⟩
  ·rintro i x σ H2 hx ⟨c',b',u,ds,rfl,s2,hf,hd⟩
   rw[bE] at hx
   cases e:ss[i]? with
   |none=>rw[e] at hx;cases hx
   |some z=>
    rw[e] at hx
    obtain rfl:V.int z=x:=bA hx
    have hzz:=hz z (bW e)
    have et:ss.take (i+1)=ss.take i++[z]:=by rw[bK,e];rfl
    have hdl:(ds.map V.int).length<sizeLine:=by
     have q1:=hd.len
     rw[cW] at q1
     rw[aU,dY]
     omega
    have app:∀d:Int,(ds.map V.int)++[V.int d]=(ds++[d]).map V.int:=fun d=>by rw[aZ];rfl
    refine⟨_,rfl,_,rfl,?_⟩
    cases b' with
    |true=>
     refine ab6 ⟨_,rfl,_,rfl,fun r hr0 hr1=>?_⟩
     refine⟨_,rfl,.inl ⟨rfl,_,SqL.of hf⟩,_,rfl,_,_,rfl,rfl,⟨by decide,by decide⟩,_,rfl,_,_,rfl,rfl,hzz.1,fl,_,_,rfl,rfl,hf,hdl,?_⟩
     refine⟨_,_,_,ds++[r / 8%z],rfl,ab2 hfl s2,by rw[app];exact aaA,?_⟩
     rw[et]
     exact hd.snoc (c6 _ (Int.ne_of_gt hzz.1)) (c7 _ hzz.1)
    |false=>
     refine abM ⟨_,rfl,.inl ⟨rfl,_,SqL.of hf⟩,_,rfl,_,rfl,_,_,rfl,rfl,hzz.1,fl,_,_,rfl,rfl,hf,hdl,?_⟩
     refine⟨_,rfl,_,rfl,_,_,rfl,rfl,hzz,?_⟩
     refine⟨_,_,_,ds++[c'%z],rfl,ab2 hfl s2,by rw[app];exact aaA,?_⟩
     rw[et]
     exact hd.snoc (c6 _ (Int.ne_of_gt hzz.1)) (c7 _ hzz.1)
  ·rintro σ H2 ⟨c',b',u,ds,rfl,s2,hf,hd⟩
   rw[aU,bS] at hd
   exact⟨_,rfl,q ds fl H2 s2 hf hd⟩
theorem ac8:Df P w K mg base "_law_field" 1 ["_law_parts","_law_low","_law_high"] (anI K):=by
 refine ZZ.dt.dfs sc__law_field (fun vs H Q E h=>?_) (fun f cdv A outer s H vs Q E hr h=>?_)
 ·obtain⟨_,_,_,_,_,_,_,rfl,_⟩:=h
  rfl
 obtain⟨p,d0,d1,d2,d3,lo,hi,rfl,hp,h0,h3,hb,q⟩:=h
 refine⟨_,(ssC (aaP 3 (eOp ab1 (v_ 1) (eOp adS (eIx xL (v_ 0) eI) (eOp ab1 (eOp adN (v_ 2) (v_ 1)) eI))) sc__law_field.nd)
   (ssK (aaP 4 (eOp ab1 (v_ 3) (eOp adS (eIx xL (v_ 0) eI) (eOp ab1 (eOp adN (v_ 2) (v_ 3)) eI))) sc__law_field.nd)
   (ssC (aaP 5 (eCT acV ZZ.af PyProof.Rows.boot_str (aC (eOp ab1 eI (eIx xL (v_ 0) eI)) aN)) sc__law_field.nd)
   (ssC (aaP 6 (aaZ (aC (eSx [42]) (aC (eCT acV ZZ.af PyProof.Rows.boot_str (aC (v_ 3) aN)) (aC (eOp abO (eOp abO (eCT acV ZZ.af PyProof.Rows.boot_str (aC (v_ 3) aN)) (eSx [45])) (eCT acV ZZ.af PyProof.Rows.boot_str (aC (v_ 4) aN))) (aC (eOp abO (eSx [42,47]) (v_ 5)) (aC (eOp abO (eOp abO (eCT acV ZZ.af PyProof.Rows.boot_str (aC (v_ 3) aN)) (eSx [44])) (eCT acV ZZ.af PyProof.Rows.boot_str (aC (v_ 4) aN))) (aC (eCT acV ZZ.af PyProof.Rows.boot_str (aC (v_ 4) aN)) aN))))))) sc__law_field.nd)
   (ssC (ac9 (aeE (v_ 6) (eOp abO (eOp abO (eOp abO (eOp abO (eCT acV ZZ.af PyProof.Rows.boot_str (aC (v_ 3) aN)) (eSx [45])) (eCT acV ZZ.af PyProof.Rows.boot_str (aC (v_ 4) aN))) (eSx [47])) (v_ 5))))
   (ss1 (aaH (eIx xL (v_ 6) (eIx xL (v_ 0) eI))))))))),?_⟩
 have sm:∀z:Int,0<=z->z<=99->z.toNat<10^500/\[V.int z]=[V.int (z.toNat:Nat)]:=fun z h1 h2=>⟨a9 (show z.toNat<100 by omega) (by decide +kernel),by rw[b5 h1]⟩
 have nl:∀z:Int,0<=z->z<=99->(num z.toNat).length<=2:=fun z h1 h2=>(acC _ (by omega)).2.2.2
 have z4':∀{n m:Nat},n<=20->m<=20->n+m<=sizeLine:=fun {n m} h1 h2=>by rw[dY];omega
 have h63:hi<=63:=by omega
 have p1:0<hi-lo+1:=by omega
 have m0:=c6 d1 (show (hi-lo+1)≠0 by omega)
 have m1:=c7 d1 p1
 refine⟨_,rfl,_,rfl,p,_,_,_,rfl,rfl,SqL.of (hp),rfl,_,rfl,_,rfl,_,_,rfl,rfl,_,_,rfl,rfl,_,_,rfl,rfl,p1,_,_,rfl,rfl,?_⟩
 obtain⟨A,eA⟩:∃A,A=lo+d1%(hi-lo+1):=⟨_,rfl⟩
 show ad5 3 (V.int (lo+d1%(hi-lo+1))) _ _ _
 rw[←eA]
 have p2:0<hi-A+1:=by omega
 have n0:=c6 d2 (show (hi-A+1)≠0 by omega)
 have n1:=c7 d2 p2
 refine⟨fun σ' H'=>H'=H/\∃B,σ'=[some (.ref p),some (.int lo),some (.int hi),some (.int A),some (.int B),none,none]/\(lo<=A/\A<=B)/\B<=hi,⟨_,rfl,_,rfl,p,_,_,_,rfl,rfl,SqL.of (hp),rfl,_,rfl,_,rfl,_,_,rfl,rfl,_,_,rfl,rfl,_,_,rfl,rfl,p2,_,_,rfl,rfl,rfl,_,rfl,⟨by omega,by omega⟩,by omega⟩,?_⟩
 rintro σ' H' ⟨rfl,B,rfl,ha,hB⟩
 clear p1 p2 m0 m1 n0 n1 eA
 obtain⟨S,eS,hS⟩:∃S,S=1+d3/\(1<=S/\S<=99):=⟨_,rfl,by omega,by omega⟩
 have A0:0<=A/\A<=99:=by omega
 have B0:0<=B/\B<=99:=by omega
 have S0:0<=S/\S<=99:=by omega
 have qA:=sm A A0.1 A0.2
 have qB:=sm B B0.1 B0.2
 have qS:=sm S S0.1 S0.2
 have lA:=nl A A0.1 A0.2
 have lB:=nl B B0.1 B0.2
 have lS:=nl S S0.1 S0.2
 have IA:=i1 (a:=A) hb.1 ha.1 (by omega) h63
 have IB:=i1 (a:=B) hb.1 (by omega) hB h63
 refine⟨_,rfl,p,_,_,_,rfl,rfl,SqL.of (hp),rfl,_,_,rfl,rfl,S.toNat,by show [V.int (1+d3)]=_;rw[←eS];exact qS.2,qS.1,?_⟩
 refine⟨_,rfl,A.toNat,qA.2,qA.1,_,rfl,A.toNat,qA.2,qA.1,_,_,rfl,rfl,z4' (by omega) (by decide),_,rfl,B.toNat,qB.2,qB.1,_,_,rfl,rfl,z4' (by rw[aW];show _+1<=20;omega) (by omega),_,rfl,_,_,rfl,rfl,z4' (by decide) (by omega),_,rfl,A.toNat,qA.2,qA.1,_,_,rfl,rfl,z4' (by omega) (by decide),_,rfl,B.toNat,qB.2,qB.1,_,_,rfl,rfl,z4' (by rw[aW];show _+1<=20;omega) (by omega),_,rfl,B.toNat,qB.2,qB.1,(zL 6),fun l hl=>?_⟩
 refine⟨_,rfl,.inl ⟨rfl,_,SqL.of aaA⟩,_,rfl,A.toNat,qA.2,qA.1,_,_,rfl,rfl,z4' (by omega) (by decide),_,rfl,B.toNat,qB.2,qB.1,_,_,rfl,rfl,z4' (by rw[aW];show _+1<=20;omega) (by omega),_,_,rfl,rfl,z4' (by rw[aW,aW];show _+1+_<=20;omega) (by decide),_,rfl,_,_,rfl,rfl,z4' (by rw[aW,aW,aW];show _+1+_+1<=20;omega) (by omega),l,_,_,rfl,rfl,aaA,(by show 6<sizeLine;decide),?_⟩
 have sA:Same H' (upd (upd H' l (.lst [.str (Tx [42]),.str (Tx (num A.toNat)),.str (Tx (num A.toNat++[45]++num B.toNat)),.str (Tx ([42,47]++num S.toNat)),.str (Tx (num A.toNat++[44]++num B.toNat)),.str (Tx (num B.toNat))])) l (.lst ([.str (Tx [42]),.str (Tx (num A.toNat)),.str (Tx (num A.toNat++[45]++num B.toNat)),.str (Tx ([42,47]++num S.toNat)),.str (Tx (num A.toNat++[44]++num B.toNat)),.str (Tx (num B.toNat))]++[.str (Tx (num A.toNat++[45]++num B.toNat++[47]++num S.toNat))]))):=ab2 hl (aaB hl _)
 have fin:∀{ws:List (List Nat)} {nss:List (List Int)} {t:List Nat},Paired (aeB lo hi) ws nss->ws≠[]->ws.length<=20->aa1 44 ws=t->∃m,FT lo hi t m/\m<2^(hi.toNat+1):=fun h1 h2 h3 e=>by rw[←e];exact axR h1 h2 h3 hb.1 (by omega)
 obtain⟨n,rfl⟩:∃n:Nat,d0=n:=⟨d0.toNat,by omega⟩
 have hpl:=sA _ _ hp
 match n,h0 with
 |0,_=>
  obtain⟨m,f1,f2⟩:=fin (ws:=[[42]]) (nss:=[acU lo hi 1]) (t:=[42]) (.cons (i0 hb.1 hb.2.1 h63) .nil) (bN _ _) (by show 1<=20;decide) (by simp[aa1])
  exact⟨_,rfl,_,rfl,p,_,_,_,rfl,rfl,SqL.of hpl,rfl,l,_,_,_,rfl,rfl,SqL.of aaA,rfl,q _ m _ sA f1 f2⟩
 |1,_=>
  obtain⟨m,f1,f2⟩:=fin (ws:=[num A.toNat]) (nss:=[[A]]) (t:=num A.toNat) (.cons IA .nil) (bN _ _) (by show 1<=20;decide) (by simp[aa1])
  exact⟨_,rfl,_,rfl,p,_,_,_,rfl,rfl,SqL.of hpl,rfl,l,_,_,_,rfl,rfl,SqL.of aaA,rfl,q _ m _ sA f1 f2⟩
 |2,_=>
  obtain⟨m,f1,f2⟩:=fin (ws:=[num A.toNat++45::num B.toNat]) (nss:=[acU A B 1]) (t:=num A.toNat++[45]++num B.toNat) (.cons (i2 hb.1 ha.1 ha.2 hB h63) .nil) (bN _ _) (by show 1<=20;decide) (by simp[aa1])
  exact⟨_,rfl,_,rfl,p,_,_,_,rfl,rfl,SqL.of hpl,rfl,l,_,_,_,rfl,rfl,SqL.of aaA,rfl,q _ m _ sA f1 f2⟩
 |3,_=>
  obtain⟨m,f1,f2⟩:=fin (ws:=[[42]++47::num S.toNat]) (nss:=[acU lo hi S]) (t:=[42,47]++num S.toNat) (.cons (i3 hb.1 hb.2.1 h63 hS) .nil) (bN _ _) (by show 1<=20;decide) (by simp[aa1])
  exact⟨_,rfl,_,rfl,p,_,_,_,rfl,rfl,SqL.of hpl,rfl,l,_,_,_,rfl,rfl,SqL.of aaA,rfl,q _ m _ sA f1 f2⟩
 |4,_=>
  obtain⟨m,f1,f2⟩:=fin (ws:=[num A.toNat,num B.toNat]) (nss:=[[A],[B]]) (t:=num A.toNat++[44]++num B.toNat) (.cons IA (.cons IB .nil)) (bN _ _) (by show 2<=20;decide) (by simp[aa1])
  exact⟨_,rfl,_,rfl,p,_,_,_,rfl,rfl,SqL.of hpl,rfl,l,_,_,_,rfl,rfl,SqL.of aaA,rfl,q _ m _ sA f1 f2⟩
 |5,_=>
  obtain⟨m,f1,f2⟩:=fin (ws:=[num B.toNat]) (nss:=[[B]]) (t:=num B.toNat) (.cons IB .nil) (bN _ _) (by show 1<=20;decide) (by simp[aa1])
  exact⟨_,rfl,_,rfl,p,_,_,_,rfl,rfl,SqL.of hpl,rfl,l,_,_,_,rfl,rfl,SqL.of aaA,rfl,q _ m _ sA f1 f2⟩
 |6,_=>
  obtain⟨m,f1,f2⟩:=fin (ws:=[(num A.toNat++45::num B.toNat)++47::num S.toNat]) (nss:=[acU A B S]) (t:=num A.toNat++[45]++num B.toNat++[47]++num S.toNat) (.cons (i5 hb.1 ha.1 ha.2 hB h63 hS) .nil) (bN _ _) (by show 1<=20;decide) (by simp[aa1])
  exact⟨_,rfl,_,rfl,p,_,_,_,rfl,rfl,SqL.of hpl,rfl,l,_,_,_,rfl,rfl,SqL.of aaA,rfl,q _ m _ sA f1 f2⟩
 |n+7,h=>exact absurd h.2 (by have:((n+7:Nat):Int)=(n:Int)+7:=rfl;omega)
theorem arZ:Df P w K mg base "_law_row" 12 ["_law_cell","_law_mixed"] (ar1 K aD aF aG aI aE aB aH aJ aA):=by
 refine ZZ.eq.dfs sc__law_row (fun vs H Q E h=>?_) (fun f cdv A outer s H vs Q E hr h=>?_)
 ·obtain⟨_,_,rfl,_⟩:=h
  rfl
 obtain⟨c,bm,rfl,q⟩:=h
 refine⟨_,(ssC (aaP 2 (eD (acA ZZ) hr (aC (v_ 0) (aC (aaZ (axB [8,2,12,31,10,8,5,7,12,12,9,7,24,24,9,7,60,60,9])) (aC (v_ 1) aN)))) sc__law_row.nd)
   (ssC (aaP 3 (eCT acV ZZ.af PyProof.Rows.boot_str (aC (eOp ab1 eI (eIx xL (v_ 2) eI)) aN)) sc__law_row.nd)
   (ssK (aaP 4 (eCT acV ZZ.af PyProof.Rows.boot_str (aC (eIx xL (v_ 2) eI) aN)) sc__law_row.nd)
   (ssC (aaP 5 (aaZ (aC (eSx [42]) (aC (v_ 3) (aC (eSx [42]) (aC (eSx [76]) (aC (eOp abO (eSx [76,45]) (v_ 3)) (aC (eOp abO (v_ 3) (eSx [87])) (aC (eSx [76,87]) (aC (eSx [50,57]) (aC (eSx [42]) (aC (eSx [51,49]) (aC (eOp abO (eSx [49,45,55,44]) (v_ 3)) (aC (eSx [42,47,50]) aN))))))))))))) sc__law_row.nd)
   (ssK (sIf (tCm oEq (eIx xL (v_ 2) eI) eI) (ss1 (av2 (eSx [76,45,51,48]) (gSb (v_ 5) eI))) ssN)
   (ssK (aaP 6 (aaZ (aC (eSx [42]) (aC (eSx [42]) (aC (eSx [49,45,53]) (aC (v_ 4) (aC (eOp abO (eOp abO (v_ 4) (eSx [35])) (eCT acV ZZ.af PyProof.Rows.boot_str (aC (eOp ab1 eI (eIx xL (v_ 2) eI)) aN))) (aC (eOp abO (v_ 4) (eSx [76])) (aC (eOp abO (v_ 4) (eSx [35,53])) (aC (eSx [53,45,55]) (aC (eSx [42]) (aC (eSx [42]) aN))))))))))) sc__law_row.nd)
   (ssK (aaP 7 (aaZ (aC (eD (ac8 ZZ) hr (aC (eSl slL (v_ 2) (poS eI) poN) (aC eI (aC eI aN)))) (aC (eD (ac8 ZZ) hr (aC (eSl slL (v_ 2) (poS eI) (poS eI)) (aC eI (aC eI aN)))) (aC (eIx xL (v_ 5) (eIx xL (v_ 2) eI)) aN)))) sc__law_row.nd)
   (ssK (aaP 7 (eOp aO6 (v_ 7) (aaZ (aC (eD (ac8 ZZ) hr (aC (eSl slL (v_ 2) (poS eI) (poS eI)) (aC eI (aC eI aN)))) (aC (eIx xL (v_ 6) (eIx xL (v_ 2) eI)) aN)))) sc__law_row.nd)
   (ssK (sIf (tCm oEq (eIx xL (v_ 2) eI) eI) (ss1 (av2 (aaZ (aC (eIx xL (aaZ (aC (eSx [50,57]) (aC (eSx [42]) aN))) (eIx xL (v_ 2) eI)) (aC (eSx [50]) (aC (eIx xL (aaZ (aC (eSx [42]) (aC (eOp abO (v_ 4) (eSx [35,53])) aN))) (eIx xL (v_ 2) eI)) aN)))) (gSl (v_ 7) (poS eI) poN))) ssN)
   (ss1 (aaH (eD (ai1 ZZ) hr (aC (aIG (eSx [32]) (v_ 7)) aN))))))))))))),?_⟩
 have sm:∀z:Int,0<=z->z<=99->z.toNat<10^500/\[V.int z]=[V.int (z.toNat:Nat)]:=fun z h1 h2=>⟨a9 (show z.toNat<100 by omega) (by decide +kernel),by rw[b5 h1]⟩
 have nl:∀z:Int,0<=z->z<=99->(num z.toNat).length<=2:=fun z h1 h2=>(acC _ (by omega)).2.2.2
 have z4':∀{n m:Nat},n<=20->m<=20->n+m<=sizeLine:=fun {n m} h1 h2=>by rw[dY];omega
 refine⟨_,rfl,(zL 19),fun ls hls=>⟨_,rfl,c,ls,bm,[8,2,12,31,10,8,5,7,12,12,9,7,24,24,9,7,60,60,9],rfl,SqL.of aaA,(by decide),(by decide),fun ds p H1 s1 hp hd=>?_⟩⟩
 have sX:=(aaB hls (.lst (([8,2,12,31,10,8,5,7,12,12,9,7,24,24,9,7,60,60,9]:List Int).map V.int))).trans s1
 obtain⟨x0,x1,x2,x3,x4,x5,x6,x7,x8,x9,x10,x11,x12,x13,x14,x15,x16,x17,x18,rfl,h0,h1,h2,h3,h4,h5,h6,h7,h8,h9,h10,h11,h12,h13,h14,h15,h16,h17,h18⟩:=aHT hd
 clear hd
 replace hp:H1 p=some (.lst [.int x0,.int x1,.int x2,.int x3,.int x4,.int x5,.int x6,.int x7,.int x8,.int x9,.int x10,.int x11,.int x12,.int x13,.int x14,.int x15,.int x16,.int x17,.int x18]):=hp
 obtain⟨n,en,hn1,hn2⟩:∃n:Nat,1+x3=(n:Int)/\1<=n/\n<=31:=⟨(1+x3).toNat,by omega,by omega,by omega⟩
 obtain⟨d,rfl,hd7⟩:∃d:Nat,x5=(d:Int)/\d<=7:=⟨x5.toNat,by omega,by omega⟩
 obtain⟨m,em,hm1,hm5⟩:∃m:Nat,1+x6=(m:Int)/\1<=m/\m<=5:=⟨(1+x6).toNat,by omega,by omega,by omega⟩
 have big:∀{z:Nat},z<=99->z<10^500:=fun h=>a9 (Nat.lt_succ_of_le h) (by decide +kernel)
 have ln:(num n).length<=2:=(acC n (by omega)).2.2.2
 have ld:(num d).length<=2:=(acC d (by omega)).2.2.2
 have lm:(num m).length<=2:=(acC m (by omega)).2.2.2
 refine⟨_,rfl,p,_,_,_,rfl,rfl,SqL.of (hp),rfl,_,_,rfl,rfl,n,(by show [V.int (1+x3)]=_;rw[en]),big (by omega),?_⟩
 refine⟨fun σ' H'=>σ'=[some (.int c),some (.bl bm),some (.ref p),some (.str (Tx (num n))),some (.str (Tx (num d))),none,none,none]/\H'=H1,⟨_,rfl,p,_,_,_,rfl,rfl,SqL.of (hp),rfl,d,rfl,big (by omega),rfl,rfl⟩,?_⟩
 rintro σ' H' ⟨rfl,rfl⟩
 refine⟨_,rfl,_,rfl,_,_,rfl,rfl,z4' (by decide) (by omega),_,rfl,_,_,rfl,rfl,z4' (by omega) (by decide),_,rfl,_,_,rfl,rfl,z4' (by decide) (by omega),(zL 12),fun l hl=>?_⟩
 refine⟨fun σ' H2=>σ'=[some (.int c),some (.bl bm),some (.ref p),some (.str (Tx (num n))),some (.str (Tx (num d))),some (.ref l),none,none]/\Same H' H2/\H2 l=some (.lst ((aj8 n).map fun t=>V.str (Tx t))),?_,?_⟩
 ·refine⟨_,rfl,p,_,_,_,rfl,rfl,SqL.of ((aaB hl _) _ _ hp),rfl,rfl,_,rfl,ifI (fun c3=>?_) (fun c3=>⟨rfl,aaB hl _,?_⟩)⟩
  ·have e31:n=31:=by omega
   refine⟨_,rfl,l,_,4,4,rfl,rfl,aaA,rfl,rfl,ab2 hl (aaB hl _),?_⟩
   rw[aaA,e31]
   rfl
  ·rw[aaA]
   unfold aj8
   rw[if_neg (show ¬n=31 by omega)]
   rfl
 rintro σ' H2 ⟨rfl,s2,hl2⟩
 have hp2:=s2 _ _ hp
 refine⟨fun σ' H3=>∃l2,σ'=[some (.int c),some (.bl bm),some (.ref p),some (.str (Tx (num n))),some (.str (Tx (num d))),some (.ref l),some (.ref l2),none]/\Same H2 H3/\H3 l2=some (.lst ((wkT d m).map fun t=>V.str (Tx t))),?_,?_⟩
 ·refine⟨_,rfl,_,rfl,_,_,rfl,rfl,z4' (by omega) (by decide),_,rfl,p,_,_,_,rfl,rfl,SqL.of (hp2),rfl,_,_,rfl,rfl,m,(by show [V.int (1+x6)]=_;rw[em]),big (by omega),_,_,rfl,rfl,z4' (by rw[aW];show _+1<=20;omega) (by omega),_,rfl,_,_,rfl,rfl,z4' (by omega) (by decide),_,rfl,_,_,rfl,rfl,z4' (by omega) (by decide),(zL 10),fun l2 hl2'=>⟨l2,rfl,aaB hl2' _,aaA⟩⟩
 rintro σ' H3 ⟨l2,rfl,s3,hl3⟩
 have hp3:=s3 _ _ hp2
 have hd3:=s3 _ _ hl2
 obtain⟨td,htd,etd⟩:=asO (ts:=aj8 n) (i:=x2) h2.1 (by show x2<12;exact h2.2)
 obtain⟨tw,htw,etw⟩:=asO (ts:=wkT d m) (i:=x4) h4.1 (by show x4<10;exact h4.2)
 obtain⟨kd,hkd⟩:=apN hn1 hn2 td htd
 obtain⟨kw,hkw⟩:=as6 hd7 hm1 hm5 tw htw
 refine⟨fun σ' H4=>∃(wl:Addr) (t0 t1:List Nat) (m0 m1:Int),σ'=[some (.int c),some (.bl bm),some (.ref p),some (.str (Tx (num n))),some (.str (Tx (num d))),some (.ref l),some (.ref l2),some (.ref wl)]/\Same H3 H4/\H4 wl=some (.lst [.str (Tx t0),.str (Tx t1),.str (Tx td)])/\FT 0 59 t0 m0/\m0<2^60/\FT 0 23 t1 m1/\m1<2^24,?_,?_⟩
 ·refine⟨_,rfl,_,rfl,p,_,rfl,SqL.of hp3,fun p1 hp1=>⟨p1,x15,x16,x17,x18,0,59,rfl,aaA,h15,h18,⟨by decide,by decide,by decide⟩,fun t0 m0 H4 s4 f0 b0=>?_⟩⟩
  have s34:=(aaB hp1 (.lst [.int x15,.int x16,.int x17,.int x18])).trans s4
  refine⟨_,rfl,_,rfl,_,rfl,p,_,rfl,SqL.of (s34 _ _ hp3),fun p2 hp2'=>⟨p2,x11,x12,x13,x14,0,23,rfl,aaA,h11,h14,⟨by decide,by decide,by decide⟩,fun t1 m1 H5 s5 f1 b1=>?_⟩⟩
  have s35:=s34.trans ((aaB hp2' (.lst [.int x11,.int x12,.int x13,.int x14])).trans s5)
  exact⟨_,rfl,_,rfl,p,_,_,_,rfl,rfl,SqL.of (s35 _ _ hp3),rfl,l,_,_,_,rfl,rfl,SqL.of (s35 _ _ hd3),etd,(zL 3),fun wl hwl=>⟨wl,t0,t1,m0,m1,rfl,s35.trans (aaB hwl _),aaA,f0,b0,f1,b1⟩⟩
 rintro σ' H4 ⟨wl,t0,t1,m0,m1,rfl,s4,hwl,f0,b0,f1,b1⟩
 refine⟨fun σ' H5=>∃(wl:Addr) (t3:List Nat) (m3:Int),σ'=[some (.int c),some (.bl bm),some (.ref p),some (.str (Tx (num n))),some (.str (Tx (num d))),some (.ref l),some (.ref l2),some (.ref wl)]/\Same H4 H5/\H4 wl=none/\H5 wl=some (.lst [.str (Tx t0),.str (Tx t1),.str (Tx td),.str (Tx t3),.str (Tx tw)])/\FT 1 12 t3 m3,?_,?_⟩
 ·refine⟨_,rfl,_,rfl,_,rfl,_,rfl,p,_,rfl,SqL.of (s4 _ _ hp3),fun p3 hp3'=>⟨p3,x7,x8,x9,x10,1,12,rfl,aaA,h7,h10,⟨by decide,by decide,by decide⟩,fun t3 m3 H5 s5 f3 b3=>?_⟩⟩
  have s45:=(aaB hp3' (.lst [.int x7,.int x8,.int x9,.int x10])).trans s5
  have s35:=s4.trans s45
  exact⟨_,rfl,_,rfl,p,_,_,_,rfl,rfl,SqL.of (s35 _ _ hp3),rfl,l2,_,_,_,rfl,rfl,SqL.of (s35 _ _ hl3),etw,(zL 2),fun q2 hq2=>⟨wl,q2,_,_,rfl,rfl,SqL.of ((aaB hq2 _) _ _ (s45 _ _ hwl)),SqL.of aaA,(by show 3+2<=sizeLine;decide),fun w2 hw2=>⟨w2,t3,m3,rfl,s45.trans ((aaB hq2 _).trans (aaB hw2 _)),(s45.trans (aaB hq2 _)).none hw2,aaA,f3⟩⟩⟩
 rintro σ' H5 ⟨wl,t3,m3,rfl,s5,nwl,hwl5,f3⟩
 have s35:=s4.trans s5
 refine⟨fun σ' H6=>∃(t2 t3 t4:List Nat) (m3:Int) (kd kw:Option (List Mk)),σ'=[some (.int c),some (.bl bm),some (.ref p),some (.str (Tx (num n))),some (.str (Tx (num d))),some (.ref l),some (.ref l2),some (.ref wl)]/\Same H4 H6/\H6 wl=some (.lst [.str (Tx t0),.str (Tx t1),.str (Tx t2),.str (Tx t3),.str (Tx t4)])/\FT 1 12 t3 m3/\DT false t2 kd/\DT true t4 kw,?_,?_⟩
 ·refine⟨_,rfl,p,_,_,_,rfl,rfl,SqL.of (s35 _ _ hp3),rfl,rfl,_,rfl,ifI (fun c0=>?_) (fun c0=>⟨td,t3,tw,m3,kd,kw,rfl,s5,hwl5,f3,hkd,hkw⟩)⟩
  obtain⟨ta,hta,eta⟩:=asO (ts:=[[50,57],[42]]) (i:=x1) h1.1 (by show x1<2;exact h1.2)
  obtain⟨tb',htb,etb⟩:=asO (ts:=[[42],num d++[35,53]]) (i:=x1) h1.1 (by show x1<2;exact h1.2)
  obtain⟨ka,hka⟩:∃ko,DT false ta ko:=by
   rcases aX.mp hta with rfl | hta
   ·exact apN (n:=1) (by decide) (by decide) _ (by simp[aj8])
   ·rw[bQ.mp hta]
    exact⟨_,abE false⟩
  obtain⟨kb,hkb⟩:∃ko,DT true tb' ko:=by
   rcases aX.mp htb with rfl | htb
   ·exact⟨_,abE true⟩
   ·rw[bQ.mp htb]
    exact as6 hd7 hm1 hm5 _ (by simp[wkT])
  have f2:FT 1 12 [50] (abY [2]):=atM (a:=2) ⟨by decide,by decide,by decide,by decide⟩ amD.2.2.2.2
  refine⟨(zL 2),fun q1 hq1=>⟨_,rfl,p,_,_,_,rfl,rfl,SqL.of ((aaB hq1 _) _ _ (s35 _ _ hp3)),rfl,q1,_,_,_,rfl,rfl,SqL.of aaA,eta,?_⟩⟩
  have sq1:=aaB hq1 (.lst [.str (Tx [50,57]),.str (Tx [42])])
  refine⟨_,rfl,_,_,rfl,rfl,z4' (by omega) (by decide),(zL 2),fun q2 hq2=>⟨_,rfl,p,_,_,_,rfl,rfl,SqL.of ((aaB hq2 _) _ _ (sq1 _ _ (s35 _ _ hp3))),rfl,q2,_,_,_,rfl,rfl,SqL.of aaA,etb,(zL 3),fun q3 hq3=>?_⟩⟩
  have sq2:=aaB hq2 (.lst [.str (Tx [42]),.str (Tx (num d++[35,53]))])
  have sq3:=aaB hq3 (.lst [.str (Tx ta),.str (Tx [50]),.str (Tx tb')])
  have hw6:=(sq1.trans (sq2.trans sq3)) _ _ hwl5
  exact⟨_,rfl,_,rfl,wl,q3,_,_,rfl,rfl,(fun e=>by rw[←e,(sq1.trans sq2) _ _ hwl5] at hq3;cases hq3),hw6,SqL.of aaA,(by show 5+3<=sizeLine;decide),ta,[50],tb',_,ka,kb,rfl,ab2 nwl (s5.trans (sq1.trans (sq2.trans sq3))),aaA,f2,hka,hkb⟩
 rintro σ' H6 ⟨t2,t3,t4,m3,kd,kw,rfl,s6,hwl6,f3,hkd,hkw⟩
 have jl:(aa1 32 [t0,t1,t2,t3,t4]).length<=1600:=by
  have:=f0.len
  have:=f1.len
  have:=f3.len
  have:=hkd.2.1.len
  have:=hkw.2.1.len
  show (t0++32::(t1++32::(t2++32::(t3++32::t4)))).length<=1600
  simp only[aW,bJ]
  omega
 refine⟨rfl,_,rfl,32,wl,[t0,t1,t2,t3,t4],rfl,rfl,SqL.of hwl6,(by omega),t0,t1,t2,t3,t4,m0,m1,m3,kd,kw,rfl,f0,f1,f3,hkd,hkw,⟨b0,b1⟩,fun x dx dv wv tm H7 htm s7 hx hdv hwv fr=>?_⟩
 have sB:=sX.trans (s2.trans (s3.trans (s4.trans s6)))
 exact q x dx m0 m1 m3 tm dv wv _ _ H7 (sB.trans s7) hx ⟨f3.nn,htm⟩ hdv hwv ⟨sB.none fr.1,fun p e=>sB.none (fr.2.1 p e),fun p e=>sB.none (fr.2.2 p e)⟩
theorem af8{k0 lv:Nat}{sp0:Sp}(hs:∀m,lv=m+1->sp0=ap3 K (⟨aD,aF,aG,aI,aE,aB,aH,aJ⟩:Cs) aA m)(D0:Df P w K mg base "_law_tree" (k0+40) ["_law_script","_law_n","_law_deep","_law_mixed"] sp0):Df P w K mg base "_law_tree" (k0+41) ["_law_script","_law_n","_law_deep","_law_mixed"] (ap3 K (⟨aD,aF,aG,aI,aE,aB,aH,aJ⟩:Cs) aA lv):=by
 refine ZZ.bq.dfs sc__law_tree (fun vs H Q E h=>?_) (fun fz cdv A outer s H vs Q E hr h=>?_)
 ·obtain⟨a,n,bm,ns,rfl,_⟩:=h
  rfl
 obtain⟨a,n,bm,ns,rfl,hS,hn,q⟩:=h
 have hn':n+2<=450:=bT (Nat.le_mul_of_pos_right _ (Nat.pow_pos (by decide))) hn
 refine⟨_,(ssC (aaP 4 (eD (hk:=by omega) (acA ZZ) hr (aC (eD (hk:=by omega) (abN ZZ) hr (aC (v_ 0) (aC (eOp ab1 eI (eOp amQ eI (v_ 1))) aN))) (aC (aaZ (aC eI (aC eI (aC eI aN)))) (aC (v_ 3) aN)))) sc__law_tree.nd)
   (ssC (sIf (tW (wOr (tCm oEq (v_ 2) eI) (anM (tCm oLt (eIx xL (v_ 4) eI) eI)))) (ssC (sIf (tCm oEq (eIx xL (v_ 4) eI) eI) (ss1 (aaH (ab8 (aC (eSx [110,111,110,101]) (aC (aaZ aN) aN))))) ssN)
   (ssC (aaP 5 (eD (hk:=by omega) (arZ ZZ) hr (aC (eD (hk:=by omega) (abN ZZ) hr (aC (v_ 0) (aC (eOp ab1 eI (eOp amQ eI (v_ 1))) aN))) (aC (v_ 3) aN))) sc__law_tree.nd)
   (ss1 (aaH (ab8 (aC (eSx [114,111,119]) (aC (aaZ (aC (v_ 5) (aC (aEY (hk:=by omega) ZZ.ae.cl (ahH ZZ) hr (v_ 5)) aN))) aN))))))) ssN)
   (ssC (aaP 6 (eIx xL (aaZ (aC (eSx [106,111,105,110]) (aC (eSx [109,101,101,116]) (aC (eSx [108,101,115,115]) (aC (eSx [116,117,114,110]) (aC (eSx [106,111,105,110]) (aC (eSx [108,101,115,115]) (aC (eSx [116,117,114,110]) aN)))))))) (eOp adN (eIx xL (v_ 4) eI) eI)) sc__law_tree.nd)
   (ssC (aaP 7 (eDg hr (aHQ (prC (eSx [106,111,105,110]) (eOp ab1 eI (eIx xL (v_ 4) eI)) (prC (eSx [109,101,101,116]) (eOp ab1 eI (eIx xL (v_ 4) eI)) (prC (eSx [108,101,115,115]) eI (prC (eSx [116,117,114,110]) eI prN))))) (v_ 6)) sc__law_tree.nd)
   (ss1 (aaH (ab8 (aC (v_ 6) (aC (ac4 ["_law_script","_law_mixed","_law_deep","_law_n"] [0,3,2,1] (iR1 ZZ.ai (aC (v_ 7) aN)) (fun _ _ _ _ _ _=>fsN) (fun _ _ _ _ _ _=>(eDr D0 hr (aC (v_ 1) (aC (eOp ab1 (eOp ab1 (eOp amQ eI (v_ 4)) eI) (v_ 0)) (aC (eOp adN (v_ 3) eI) (aC (v_ 2) aN))))))) aN))))))))),?_⟩
 refine⟨_,rfl,_,rfl,_,_,rfl,rfl,.inl ⟨by decide,by decide⟩,_,_,rfl,rfl,a,_,rfl,⟨ns,hS⟩,⟨by omega,by omega⟩,fun c=>⟨(zL 3),fun ls hls=>⟨_,rfl,c,ls,bm,[9,3,16],rfl,SqL.of aaA,(by decide),(by decide),fun ds p H1 s1 hp hd=>?_⟩⟩⟩
 have sX:=(aaB hls (.lst (([9,3,16]:List Int).map V.int))).trans s1
 obtain⟨x0,r0,rfl,b0,hd⟩:=aaO hd
 obtain⟨x1,r1,rfl,b1,hd⟩:=aaO hd
 obtain⟨x2,r2,rfl,b2,hd⟩:=aaO hd
 obtain rfl:=akP hd
 replace hp:H1 p=some (.lst [.int x0,.int x1,.int x2]):=hp
 cases lv with
 |zero=>
  refine⟨_,rfl,rfl,_,rfl,ifI (fun _=>ab6 ?_) (fun c=>absurd rfl c)⟩
  refine⟨_,rfl,p,_,_,_,rfl,rfl,SqL.of hp,rfl,rfl,_,rfl,ifI (fun c3=>?_) (fun c3=>?_)⟩
  ·exact⟨(zL 0),fun l hl=>⟨(zL 2),fun t ht=>q t (fun _ _=>0) _ (sX.trans ((aaB hl _).trans (aaB ht _))) ⟨t,l,_,rfl,aaA,sX.none hl,.inl ⟨rfl,(aaB ht _) _ _ aaA,rfl⟩⟩⟩⟩
  ·refine⟨_,rfl,_,rfl,_,_,rfl,rfl,.inl ⟨by decide,by decide⟩,_,_,rfl,rfl,a,_,rfl,⟨ns,sX.seq hS⟩,⟨by omega,by omega⟩,fun c2=>⟨_,rfl,c2,bm,rfl,fun x dx m0 m1 m3 tm dv wv kd kw H2 s2 hx h3 hd hw fr=>?_⟩⟩
   refine⟨_,rfl,_,rfl,x,dx,_,rfl,hx,adB ..,x,dx,m0,m1,m3,tm,dv,wv,rfl,hx,(zL 2),fun l hl=>⟨(zL 2),fun t ht=>q t (acO tm m3 kd kw) _ (sX.trans (s2.trans ((aaB hl _).trans (aaB ht _)))) ⟨t,l,_,rfl,aaA,(sX.trans s2).none hl,.inr (.inl ⟨rfl,.ref x,tm,(aaB ht _) _ _ aaA,x,dx,m0,m1,m3,dv,wv,kd,kw,rfl,((aaB hl _).trans (aaB ht _)) _ _ hx,h3,hd.keep ((aaB hl _).trans (aaB ht _)),hw.keep ((aaB hl _).trans (aaB ht _)),fun p e=>sX.none (fr.2.1 p e),fun p e=>sX.none (fr.2.2 p e),rfl⟩)⟩⟩⟩
 |succ m=>
  obtain rfl:=hs m rfl
  refine⟨_,rfl,rfl,_,rfl,ifI (fun c=>absurd c (by have:((m+1:Nat):Int)=(m:Int)+1:=rfl;omega)) (fun _=>⟨_,rfl,p,_,_,_,rfl,rfl,SqL.of hp,rfl,_,_,rfl,rfl,_,rfl,ifD (fun _=>?_) (fun c0=>?_)⟩)⟩
  ·refine⟨_,rfl,p,_,_,_,rfl,rfl,SqL.of hp,rfl,rfl,_,rfl,ifI (fun c3=>?_) (fun c3=>?_)⟩
   ·exact⟨(zL 0),fun l hl=>⟨(zL 2),fun t ht=>q t (fun _ _=>0) _ (sX.trans ((aaB hl _).trans (aaB ht _))) ⟨t,l,_,rfl,aaA,sX.none hl,.inl ⟨rfl,(aaB ht _) _ _ aaA,rfl⟩⟩⟩⟩
   ·refine⟨_,rfl,_,rfl,_,_,rfl,rfl,.inl ⟨by decide,by decide⟩,_,_,rfl,rfl,a,_,rfl,⟨ns,sX.seq hS⟩,⟨by omega,by omega⟩,fun c2=>⟨_,rfl,c2,bm,rfl,fun x dx m0 m1 m3 tm dv wv kd kw H2 s2 hx h3 hd hw fr=>?_⟩⟩
    refine⟨_,rfl,_,rfl,x,dx,_,rfl,hx,adB ..,x,dx,m0,m1,m3,tm,dv,wv,rfl,hx,(zL 2),fun l hl=>⟨(zL 2),fun t ht=>q t (acO tm m3 kd kw) _ (sX.trans (s2.trans ((aaB hl _).trans (aaB ht _)))) ⟨t,l,_,rfl,aaA,(sX.trans s2).none hl,.inr (.inl ⟨rfl,.ref x,tm,(aaB ht _) _ _ aaA,x,dx,m0,m1,m3,dv,wv,kd,kw,rfl,((aaB hl _).trans (aaB ht _)) _ _ hx,h3,hd.keep ((aaB hl _).trans (aaB ht _)),hw.keep ((aaB hl _).trans (aaB ht _)),fun p e=>sX.none (fr.2.1 p e),fun p e=>sX.none (fr.2.2 p e),rfl⟩)⟩⟩⟩
  obtain⟨wd,ewd,hwd⟩:=aE4 (i:=x0-2) (by omega) (by omega)
  refine⟨(zL 7),fun wl hwl=>⟨_,rfl,p,_,_,_,rfl,rfl,SqL.of ((aaB hwl _) _ _ hp),rfl,_,_,rfl,rfl,wl,_,_,_,rfl,rfl,SqL.of aaA,ewd,?_⟩⟩
  have sw:=aaB hwl (.lst [.str (Tx [106,111,105,110]),.str (Tx [109,101,101,116]),.str (Tx [108,101,115,115]),.str (Tx [116,117,114,110]),.str (Tx [106,111,105,110]),.str (Tx [108,101,115,115]),.str (Tx [116,117,114,110])])
  obtain⟨M,eM,hM⟩:=aAX (z:=1+x1) (by omega) hwd
  refine fun pd hpd=>⟨_,rfl,p,_,_,_,rfl,rfl,SqL.of ((aaB hpd _) _ _ (sw _ _ hp)),rfl,_,_,rfl,rfl,_,rfl,p,_,_,_,rfl,rfl,SqL.of ((aaB hpd _) _ _ (sw _ _ hp)),rfl,_,_,rfl,rfl,aaA,aEA (1+x1),rfl,(by show 4<=15;decide),_,rfl,pd,_,rfl,.inl ⟨_,.inr (Tx wd),(.inl aaA),rfl,eM⟩,?_⟩
  have s3:Same H1 (upd (upd (upd H1 wl (.lst [.str (Tx [106,111,105,110]),.str (Tx [109,101,101,116]),.str (Tx [108,101,115,115]),.str (Tx [116,117,114,110]),.str (Tx [106,111,105,110]),.str (Tx [108,101,115,115]),.str (Tx [116,117,114,110])])) pd (.dK [])) pd (.dK (agJ [] (aEA (1+x1))))):=sw.trans (ab2 hpd (aaB hpd _))
  refine⟨_,rfl,_,rfl,_,rfl,(by omega),(by omega),ae9 (fun D i l HZ=>∃fs,Paired (TrP (fun b=>H1 b=none/\b≠D) (⟨aD,aF,aG,aI,aE,aB,aH,aJ⟩:Cs) aA (m+1) HZ) l fs/\l.length=i) (fun D i l HZ l0 l' hD _ ⟨fs,hp,hl⟩=>⟨fs,Paired.mapP hp fun _ _ z=>au8 hD (fun p hp=>hp.2) _ z,hl⟩) (by rw[dY];omega) (fun D _=>⟨[],.nil,rfl⟩) (fun i l D H5 E' F' hi ⟨fs,hP,hl⟩ hD s5 hz hE hF=>?_) (fun D H5 l ⟨fs,hP,hl⟩ hD s5 hz=>?_)⟩
  ·have s15:=s3.trans s5
   refine⟨_,rfl,_,rfl,_,_,rfl,rfl,.inl ⟨by decide,by decide⟩,_,_,rfl,rfl,_,rfl,_,_,rfl,rfl,_,rfl,_,_,rfl,rfl,_,rfl,a,3*n+1+i,bm,ns,?_,(sX.trans s15).seq hS,?_,fun t f H6 s6 hT=>hE _ _ s6 ⟨fs++[f],abJ (Paired.mapP hP fun _ _ z=>aaU (fun _ z=>z) s6 _ z) (aaU (fun p hp=>⟨s15.none hp,fun e=>by rw[e,hz] at hp;cases hp⟩) (Same.refl _) _ hT),by rw[aW,hl];rfl⟩⟩
   ·show [V.ref a,V.int (3*(n:Int)+1+(0+(i:Int))),V.int (((m+1:Nat):Int)-1),V.bl bm]=_
    rw[show 3*(n:Int)+1+(0+(i:Int))=((3*n+1+i:Nat):Int) by omega,show ((m+1:Nat):Int)-1=(m:Int) by omega]
   ·have hi':i<3:=by omega
    have e3:(n+2)*3^(m+1)=(3*n+6)*3^m:=by rw[Nat.pow_succ,Nat.mul_comm (3^m) 3,←Nat.mul_assoc];congr 1;omega
    have:(3*n+1+i+2)*3^m<=(3*n+6)*3^m:=Nat.mul_le_mul_right _ (by omega)
    omega
  ·have s15:=s3.trans s5
   refine⟨(zL 2),fun t ht=>?_⟩
   have st:=aaB ht (.tup [.str (Tx wd),.ref D])
   have dn:H1 D=none:=s3.none hD
   obtain⟨f,hf⟩:=av0 (A:=fun b=>H b=none) (M:=M) aaA (sX.none dn) (st _ _ hz) (Paired.mapP hP fun _ _ z=>aaU (fun p hp=>sX.none hp.1) st _ z) (by rw[hl];exact bP M) hM
   exact q t f _ (sX.trans (s15.trans st)) hf
theorem ar0{k0:Nat}:Df P w K mg base "_law_tree" (k0+1) ["_law_script","_law_n","_law_deep","_law_mixed"] (fun _ _ _ _=>False):=ZZ.bq.dfs sc__law_tree (fun _ _ _ _ h=>h.elim) (fun _ _ _ _ _ _ _ _ _ _ h=>h.elim)
theorem ae1:∀lv:Nat,Df P w K mg base "_law_tree" (lv+41) ["_law_script","_law_n","_law_deep","_law_mixed"] (ap3 K (⟨aD,aF,aG,aI,aE,aB,aH,aJ⟩:Cs) aA lv)
 |0=>af8 ZZ (k0:=0) (fun m h=>absurd h.symm (Nat.succ_ne_zero m)) (ar0 ZZ)
 |lv+1=>by
  have:=af8 ZZ (k0:=lv+1) (lv:=lv+1) (fun m h=>congrArg (fun z=>ap3 K (⟨aD,aF,aG,aI,aE,aB,aH,aJ⟩:Cs) aA z) (bU h)) (by rw[show lv+1+40=lv+41 by omega];exact ae1 lv)
  exact this
theorem af3{k0 n:Nat}{sp0:Sp}(hs:∀m,n=m+1->sp0=aoV (⟨aD,aF,aG,aI,aE,aB,aH,aJ⟩:Cs) aA aL aQ aM aO aK aP m)(D0:Df P w K mg base "_law_make" (k0+40) ["_law_tree_here"] sp0):Df P w K mg base "_law_make" (k0+41) ["_law_tree_here"] (aoV (⟨aD,aF,aG,aI,aE,aB,aH,aJ⟩:Cs) aA aL aQ aM aO aK aP n):=by
 refine ZZ.br.dfs sc__law_make (fun vs H Q E h=>?_) (fun fz cdv Ar outer s H vs Q E hr h=>?_)
 ·obtain⟨A,v,f,rfl,_⟩:=h
  rfl
 obtain⟨A,v,f,rfl,hT,hn,q⟩:=h
 refine⟨_,(ssC (av2 (v_ 0) (gTu (gsC (gN 1 sc__law_make.nd) (gsC (gN 2 sc__law_make.nd) gsN))))
   (ssC (sIf (tCm oEq (v_ 1) (eSx [110,111,110,101])) (ss1 (aaH (av7 ZZ.ag ZZ.be))) ssN)
   (ssC (sIf (tCm oEq (v_ 1) (eSx [114,111,119])) (ss1 (aaH (aa5 (hk:=by omega) ZZ.av (alG ZZ) hr aaJ (aC (eIx xL (v_ 2) eI) aN)))) ssN)
   (ssC (au7 3 [] [] (iL (v_ 2)) (fun _ _ _ _ _ _=>fsN) (fun _ _ _ _ _ _=>(eDr D0 hr (aC (v_ 0) aN))) sc__law_make.nd)
   (ssC (sIf (tCm oEq (v_ 1) (eSx [106,111,105,110])) (ss1 (aaH (aa5 (hk:=by omega) ZZ.aa (aaF ZZ) hr aaJ (aC (v_ 3) aN)))) ssN)
   (ssC (sIf (tCm oEq (v_ 1) (eSx [109,101,101,116])) (ss1 (aaH (aa5 (hk:=by omega) ZZ.ad (aaL ZZ) hr aaJ (aC (v_ 3) aN)))) ssN)
   (ssC (sIf (tCm oEq (v_ 1) (eSx [108,101,115,115])) (ss1 (aaH (aa5 (hk:=by omega) ZZ.ac (aa0 ZZ) hr aaJ (aC (eIx xL (v_ 3) eI) (aC (eIx xL (v_ 3) eI) aN))))) ssN)
   (ss1 (aaH (aa5 (hk:=by omega) ZZ.ab (aaG ZZ) hr aaJ (aC (eIx xL (v_ 3) eI) aN))))))))))),?_⟩
 cases n with
 |zero=>exact hT.elim
 |succ n=>
  obtain rfl:=hs n rfl
  have t0:=(axN (show n<=3 by omega)).1
  have tn:tl (n+1)=1+3*tl n:=rfl
  have ic:((n+1:Nat):Int)=(n:Int)+1:=rfl
  replace hT:=ae5 _ hT
  obtain⟨t,l,wd,rfl,ht,hA,h⟩:=hT
  refine⟨_,rfl,t,_,rfl,SqT.of ht,rfl,_,_,rfl,_,_,rfl,rfl,?_⟩
  rcases h with ⟨rfl,hl,rfl⟩ | ⟨rfl,r,tm,hl,hr_⟩ | h
  ·exact⟨_,rfl,rfl,_,rfl,anH fun x dx nx nd _=>q (.ref x) 1 1 _ (ab0 nx nd) ⟨x,rfl,.inl ⟨dx,aaA,rfl⟩⟩ (mkB x dx H) ⟨by decide,by omega⟩ (by omega)⟩
  ·obtain⟨x0,dx0,m0,m1,m3,dv,wv,kd,kw,rfl,hx0,_⟩:=id hr_
   exact⟨_,rfl,rfl,_,rfl,afV (by decide) ⟨_,rfl,rfl,_,rfl,anH ⟨_,rfl,l,_,_,_,rfl,rfl,SqL.of hl,rfl,fun x dx nx nd _=>mkO ⟨_,ZZ.fg.ty ZZ.ae.cl hx0,ZZ.fh⟩ (fun H3 s3 hb hx=>⟨rfl,q (.ref x) 1 1 H3 s3 ⟨x,rfl,.inr (.inl ⟨dx,_,tm,hx,amC (fun p z=>z.1) (ahE s3 hr_)⟩)⟩ hb ⟨by decide,by omega⟩ (by omega)⟩) nx nd⟩⟩⟩
  obtain⟨us,fs,hl,hP,l1,l3,hw⟩:∃(us:List V) (fs:List DF),H l=some (.lst us)/\Paired (TrP (fun p=>A p/\H p≠none) (⟨aD,aF,aG,aI,aE,aB,aH,aJ⟩:Cs) aA n H) us fs/\1<=us.length/\us.length<=3/\(wd=[106,111,105,110]/\f=orF fs∨wd=[109,101,101,116]/\f=anF fs∨(wd=[108,101,115,115]/\∃a b,fs=[a,b]/\f=fun k j=>Builtin.bitAnd (a k j) (Builtin.bitNot (b k j)))∨(wd=[116,117,114,110]/\∃a,fs=[a]/\f=fun k j=>Builtin.bitXor allT (a k j))):=by
   rcases h with ⟨us,fs,e,h2,h3,h4,h5⟩ | ⟨e,u1,u2,a,b,h2,h3,h4,ef⟩ | ⟨e,u1,a,h2,h3,ef⟩
   ·exact⟨us,fs,h2,h3,h4,h5,e.elim .inl fun z=>.inr (.inl z)⟩
   ·exact⟨[u1,u2],[a,b],h2,.cons h3 (.cons h4 .nil),by show 1<=2;decide,by show 2<=3;decide,.inr (.inr (.inl ⟨e,a,b,rfl,ef⟩))⟩
   ·exact⟨[u1],[a],h2,.cons h3 .nil,by show 1<=1;decide,by show 1<=3;decide,.inr (.inr (.inr ⟨e,a,rfl,ef⟩))⟩
  have n1:wd≠[110,111,110,101]/\wd≠[114,111,119]:=by
   rcases hw with ⟨rfl,_⟩ | ⟨rfl,_⟩ | ⟨rfl,_⟩ | ⟨rfl,_⟩<;>decide
  refine⟨_,rfl,rfl,_,rfl,afV n1.1 ⟨_,rfl,rfl,_,rfl,afV n1.2 ⟨_,rfl,l,rfl,⟨_,SqL.of hl⟩,alR (xs:=us) (fun D i l' HZ=>∃tds,Paired (BsP (fun p=>A p/\H p≠none) (⟨aD,aF,aG,aI,aE,aB,aH,aJ⟩:Cs) aA aL aQ aM aO aK aP n HZ) l' (fs.take i)/\Paired (acD aL aQ aM aO aK aP 6 HZ) l' tds/\∀td∈tds,td.1<=tl n/\td.2<=(n:Int)) (fun D i l' HZ l0 l'' hD hN ⟨tds,h1,h2,h3⟩=>⟨tds,Paired.mapP h1 fun _ _ z=>akS hD (fun p hp e=>hp.2 (by rw[e];exact hN)) _ z,Paired.mapP h2 fun _ _ z=>aiC hD 6 z,h3⟩) (by rw[dY];omega) (fun D _=>⟨[],.nil,.nil,fun td h=>nomatch h⟩) (SqL.of hl) (fun i v l' D H2 E' F' hv ⟨tds,h1,h2,h3⟩ hD s2 hz hE hF=>?_) (fun D H2 l' ⟨tds,h1,h2,h3⟩ hD s2 hz=>?_)⟩⟩⟩
  ·obtain⟨g,eg,hg⟩:=KM.Paired.at hP hv
   exact⟨_,rfl,_,v,g,rfl,aaU (fun _ z=>z) s2 _ hg,by omega,fun b tb db H5 s5 hB hK h4 h5=>hE _ _ s5 ⟨tds++[(tb,db)],by rw[bK,eg];exact abJ (Paired.mapP h1 fun _ _ z=>abF (fun _ z=>z) s5 _ z) hB,abJ (Paired.mapP h2 fun _ _ z=>aaX s5 6 z) hK,fun td hd=>(bZ.mp hd).elim (h3 td) fun e=>by rw[bQ.mp e];exact⟨h4.2,h5⟩⟩⟩
  rw[show us.length=fs.length from Paired.length hP,bS] at h1
  have len':l'.length=us.length:=by rw[Paired.length h1,Paired.length hP]
  obtain⟨tb,db,hV,htb,hdb⟩:=aFQ (K:=K) (n:=n) (by omega) h2 (by omega) (by omega) h3
  have fin:∀{H3:Hp},Same H2 H3->Paired (BsP A (⟨aD,aF,aG,aI,aE,aB,aH,aJ⟩:Cs) aA aL aQ aM aO aK aP n H3) l' fs:=fun s3=>Paired.mapP h1 fun _ _ z=>abF (fun p z=>z.1) s3 _ z
  rcases hw with ⟨rfl,rfl⟩ | ⟨rfl,rfl⟩ | ⟨rfl,a,b,rfl,rfl⟩ | ⟨rfl,a,rfl,rfl⟩
  ·exact⟨_,rfl,rfl,_,rfl,anH ⟨_,rfl,fun x dx nx nd _=>mkJ (.inl rfl) (SqL.of hz) (by omega) hV (fun H3 s3 hb ⟨dx',t',hx,ht'⟩=>⟨rfl,q (.ref x) tb db H3 (s2.trans s3) ⟨x,rfl,.inr (.inr (.inl ⟨dx',t',_,fs,hx,ht',fin s3,rfl⟩))⟩ hb htb hdb⟩) nx nd⟩⟩
  ·exact⟨_,rfl,rfl,_,rfl,afV (by decide) ⟨_,rfl,rfl,_,rfl,anH ⟨_,rfl,fun x dx nx nd _=>mkJ (.inr rfl) (SqL.of hz) (by omega) hV (fun H3 s3 hb ⟨dx',t',hx,ht'⟩=>⟨rfl,q (.ref x) tb db H3 (s2.trans s3) ⟨x,rfl,.inr (.inr (.inr (.inl ⟨dx',t',_,fs,hx,ht',fin s3,rfl⟩)))⟩ hb htb hdb⟩) nx nd⟩⟩⟩
  ·obtain⟨v1,v2,rfl,h5,h6⟩:=awY h1
   exact⟨_,rfl,rfl,_,rfl,afV (by decide) ⟨_,rfl,rfl,_,rfl,afV (by decide) ⟨_,rfl,rfl,_,rfl,anH ⟨_,rfl,D,_,_,_,rfl,rfl,SqL.of hz,rfl,_,rfl,D,_,_,_,rfl,rfl,SqL.of hz,rfl,fun x dx nx nd _=>mkL hV (fun H3 s3 hb hx=>⟨rfl,q (.ref x) tb db H3 (s2.trans s3) ⟨x,rfl,.inr (.inr (.inr (.inr (.inl ⟨dx,v1,v2,a,b,hx,abF (fun p z=>z.1) s3 _ h5,abF (fun p z=>z.1) s3 _ h6,rfl⟩))))⟩ hb htb hdb⟩) nx nd⟩⟩⟩⟩
  ·obtain⟨v1,rfl,h5⟩:=azM h1
   exact⟨_,rfl,rfl,_,rfl,afV (by decide) ⟨_,rfl,rfl,_,rfl,afV (by decide) ⟨_,rfl,rfl,_,rfl,afV (by decide) ⟨_,rfl,D,_,_,_,rfl,rfl,SqL.of hz,rfl,fun x dx nx nd _=>mkT hV (fun H3 s3 hb hx=>⟨rfl,q (.ref x) tb db H3 (s2.trans s3) ⟨x,rfl,.inr (.inr (.inr (.inr (.inr ⟨dx,v1,a,hx,abF (fun p z=>z.1) s3 _ h5,rfl⟩))))⟩ hb htb hdb⟩) nx nd⟩⟩⟩⟩
theorem aqZ{k0:Nat}:Df P w K mg base "_law_make" (k0+1) ["_law_tree_here"] (fun _ _ _ _=>False):=ZZ.br.dfs sc__law_make (fun _ _ _ _ h=>h.elim) (fun _ _ _ _ _ _ _ _ _ _ h=>h.elim)
theorem aeK:∀n:Nat,Df P w K mg base "_law_make" (n+41) ["_law_tree_here"] (aoV (⟨aD,aF,aG,aI,aE,aB,aH,aJ⟩:Cs) aA aL aQ aM aO aK aP n)
 |0=>af3 ZZ (k0:=0) (fun m h=>absurd h.symm (Nat.succ_ne_zero m)) (aqZ ZZ)
 |n+1=>by
  have:=af3 ZZ (k0:=n+1) (n:=n+1) (fun m h=>congrArg (fun z=>aoV (⟨aD,aF,aG,aI,aE,aB,aH,aJ⟩:Cs) aA aL aQ aM aO aK aP z) (bU h)) (by rw[show n+1+40=n+41 by omega];exact aeK n)
  exact this
theorem alS:Df P w K mg base "add_stretch" 1 ["stretches","first","last","told"] (al9 K):=by
 refine ZZ.c9.dfs alK (fun vs H Q E h=>?_) (fun f cdv A outer s H vs Q E hr h=>?_)
 ·obtain⟨_,_,_,_,_,_,rfl,_⟩:=h
  rfl
 obtain⟨p,vs',sts,a,b,tm,rfl,hp,hP,hl,q⟩:=h
 refine⟨_,(ss1 (sIf (tW (aEV (tCm (oNeE hr.units) (v_ 0) (aaZ aN)) (aw6 (tCm oEq (eIx xT (eIx xL (v_ 0) (eUn as4 eI)) eI) (v_ 3))))) (ss1 (av2 (ab8 (aC (eIx xT (eIx xL (v_ 0) (eUn as4 eI)) eI) (aC (v_ 2) (aC (v_ 3) aN)))) (gSb (v_ 0) (eUn as4 eI)))) (ss1 (ac9 (aeE (v_ 0) (ab8 (aC (v_ 1) (aC (v_ 2) (aC (v_ 3) aN))))))))),?_⟩
 refine⟨_,rfl,(zL 0),fun l hl0=>⟨p,l,vs',rfl,rfl,SqL.of ((aaB hl0 _) _ _ hp),SqL.of aaA,_,rfl,?_⟩⟩
 have s0:=aaB hl0 (.lst [])
 have hp0:=s0 _ _ hp
 have app:∀{H1:Hp} (t:Addr),Same H H1->H1 t=none->∀z:Tri,Paired (TpT (upd (upd H1 t (.tup [.int z.1,.int z.2.1,.int z.2.2])) p (.lst (vs'++[.ref t])))) (vs'++[.ref t]) (sts++[z]):=fun {H1} t s1 ht z=>by
  have tp:t≠p:=fun e=>by rw[e,s1 _ _ hp] at ht;cases ht
  have g:∀b xs,H b=some (.tup xs)->upd (upd H1 t (.tup [.int z.1,.int z.2.1,.int z.2.2])) p (.lst (vs'++[.ref t])) b=some (.tup xs):=fun b xs hb=>by
   rw[aaE (fun e=>by rw[e,hp] at hb;cases hb)]
   exact (s1.trans (aaB ht _)) _ _ hb
  exact abJ (Paired.mapP hP fun _ _ y=>ahY g y) ⟨t,rfl,by rw[aaE tp,aaA]⟩
 have oth:∀{H1:Hp} (t:Addr) (o u:HO),Same H H1->H1 t=none->∀q o',q≠p->H q=some o'->upd (upd H1 t o) p u q=some o':=fun {H1} t o u s1 ht q o' nq hq=>by
  rw[aaE nq]
  exact (s1.trans (aaB ht o)) _ _ hq
 by_cases c:vs'=[]
 ·subst c
  cases hP
  refine abM (abM ⟨_,rfl,.inl ⟨rfl,_,SqL.of hp0⟩,_,rfl,_,rfl,_,rfl,(zL 3),fun t ht=>⟨p,_,_,rfl,rfl,(aaB ht _) _ _ hp0,(by show 0<sizeLine;decide),q _ _ aaA (app t s0 ht (a,b,tm)) (oth t _ _ s0 ht)⟩⟩)
 obtain⟨l0,v,rfl⟩:=aAM c
 obtain⟨st0,z,rfl,hP0,t0,rfl,ht0⟩:=axX hP
 rw[aoF] at q
 rw[d6 c]
 have ht00:=s0 _ _ ht0
 refine ab6 ⟨_,rfl,_,rfl,p,_,_,_,rfl,rfl,SqL.of hp0,auJ,t0,_,_,_,rfl,rfl,SqT.of ht00,rfl,_,rfl,rfl,_,rfl,ifI (fun ce=>?_) (fun ce=>?_)⟩
 ·rw[if_pos ce] at q
  refine⟨_,rfl,_,rfl,p,_,_,_,rfl,rfl,SqL.of hp0,auJ,t0,_,_,_,rfl,rfl,SqT.of ht00,rfl,_,rfl,_,rfl,(zL 3),fun t ht=>?_⟩
  have s1:=aaB ht (.tup [.int z.1,.int b,.int tm])
  have tp:t≠p:=fun e=>by rw[e,hp0] at ht;cases ht
  refine⟨_,rfl,_,rfl,p,_,_,_,rfl,rfl,s1 _ _ hp0,az0,?_⟩
  rw[axG]
  have g:∀b' xs,H b'=some (.tup xs)->upd (upd (upd H l (.lst [])) t (.tup [.int z.1,.int b,.int tm])) p (.lst (l0++[.ref t])) b'=some (.tup xs):=fun b' xs hb=>by
   rw[aaE (fun e=>by rw[e,hp] at hb;cases hb)]
   exact (s0.trans s1) _ _ hb
  exact q _ _ aaA (abJ (Paired.mapP hP0 fun _ _ y=>ahY g y) ⟨t,rfl,by rw[aaE tp,aaA]⟩) (oth t _ _ s0 ht)
 ·rw[if_neg ce] at q
  exact⟨_,rfl,.inl ⟨rfl,_,SqL.of hp0⟩,_,rfl,_,rfl,_,rfl,(zL 3),fun t ht=>⟨p,_,_,rfl,rfl,(aaB ht _) _ _ hp0,(by rw[dY];omega),q _ _ aaA (app t s0 ht (a,b,tm)) (oth t _ _ s0 ht)⟩⟩
theorem atO:Df P w K mg base "page_of" 2 ["days"] (asZ K):=by
 refine ZZ.e3.dfs sc_page_of (fun vs H Q E h=>?_) (fun f cdv A outer s H vs Q E hr h=>?_)
 ·obtain⟨_,_,_,rfl,_⟩:=h
  rfl
 obtain⟨a,n,f,rfl,hS,hn,q⟩:=h
 refine⟨_,(ssC (aaP 1 (aaZ aN) sc_page_of.nd)
   (ssC (ah9 (iES ZZ.as (v_ 0)) (gTu (gsC (gN 2 sc_page_of.nd) (gsC (gN 3 sc_page_of.nd) gsN))) (ss1 (ac9 (eD (alS ZZ) hr (aC (v_ 1) (aC (v_ 2) (aC (v_ 2) (aC (v_ 3) aN))))))) PassesOwn.never)
   (ss1 (aaH (v_ 1))))),?_⟩
 refine⟨(zL 0),fun p hp=>?_⟩
 have s0:=aaB hp (.lst [])
 refine⟨_,rfl,a,rfl,⟨_,s0.seq hS⟩,aBB (K:=K) (a:=a) (xs:=((List.range n).map f).map V.int) (fun i σ H2=>∃v2 v3:Option V,σ=[some (.ref a),some (.ref p),v2,v3]/\Same H H2/\arU H2 p (pgN f i)) ⟨_,_,rfl,s0,[],aaA,.nil⟩ (fun i σ H2 _ ⟨_,_,_,s2,_⟩=>s2.seq hS) ?turn ?done⟩
 case done=>
  rintro σ H2 ⟨v2,v3,rfl,s2,hg⟩
  rw[aU,aU,dG] at hg
  exact⟨_,rfl,q p H2 s2 hp hg⟩
 case turn=>
  rintro i x σ H2 T hx ⟨v2,v3,rfl,s2,us,h1,h2⟩ hT
  have sT:=aaB hT (.tup [.int ((i+1:Nat):Int),x])
  have hi:i<n:=by
   have:=(cE.mp hx).1
   simpa using this
  obtain rfl:V.int (f i)=x:=by
   rw[cD,bE,dA hi] at hx
   exact bA hx
  have hlen:us.length<=40:=by
   rw[Paired.length h2]
   have:=axM f i
   omega
  refine⟨T,_,rfl,SqT.of aaA,rfl,_,_,rfl,_,_,rfl,rfl,?_⟩
  refine⟨_,rfl,_,rfl,_,rfl,_,rfl,p,us,pgN f i,_,_,_,rfl,sT _ _ h1,Paired.mapP h2 fun _ _ y=>ahY (fun b xs z=>sT _ _ z) y,hlen,fun H4 us' h4 h5 h6=>⟨_,_,rfl,fun b o hb=>?_,us',h4,h5⟩⟩
  by_cases e:b=p
  ·rw[e,hp] at hb
   cases hb
  ·exact h6 b o e ((s2.trans sT) _ _ hb)
theorem ab5:Df P w K mg base "sheet_of" 37 ["book"] (arI K aD aF aG aI aE aB aH aJ aA aL aQ aM aO aK aP):=by
 refine ZZ.er.dfs aq8 (fun vs H Q E h=>?_) (fun f cdv A outer s H vs Q E hr h=>?_)
 ·obtain⟨_,_,rfl,_⟩:=h
  rfl
 obtain⟨b,f,rfl,hb,q⟩:=h
 refine⟨_,(ss1 (aaH (ac4 ["book"] [0] (iR1 ZZ.ai (aC (eGl (v:=.int 91) ZZ.fb ⟨_,rfl⟩) aN)) (fun _ _ _ _ _ _=>fsN) (fun _ _ _ _ _ _=>(eD (atO ZZ) hr (aC (eMo (anY ZZ 5) hr (v_ 1) awK (v_ 0)) aN)))))),?_⟩
 refine⟨_,rfl,by decide,by decide,ae9 (fun D i l HZ=>∃ps:List Addr,l=ps.map V.ref/\ps.length=i/\ps.Nodup/\(∀p∈ps,H p=none/\p≠D)/\∀(j:Nat) (p:Addr),ps[j]? =some p->arU HZ p (pgN (f (j:Int)) (lnA (j:Int)).toNat)) ?hm (zL 91) (fun D _=>⟨[],rfl,rfl,.nil,(fun p h=>nomatch h),(fun j p h=>nomatch h)⟩) ?st ?dn⟩
 case hm=>
  rintro D i l HZ l0 l' hD hN ⟨ps,e1,e2,e3,e4,e5⟩
  refine⟨ps,e1,e2,e3,e4,fun j p hj=>?_⟩
  obtain⟨us,h1,h2⟩:=e5 j p hj
  have ne:=(e4 p (bW hj)).2
  exact⟨us,by rw[aaE ne];exact h1,Paired.mapP h2 fun _ _ y=>ahY (fun b xs z=>by rw[aaE (fun e=>by rw[e,hD] at z;cases z)];exact z) y⟩
 case st=>
  rintro i l D H2 E' F' hi ⟨ps,rfl,e2,e3,e4,e5⟩ hD s2 hz hE hF
  have hi':i<91:=hi
  refine⟨_,rfl,(0+(i:Int)),f,rfl,⟨by omega,by omega⟩,abV s2 5 hb,fun D1 H3 s3 h3=>?_⟩
  rw[show (0:Int)+(i:Int)=(i:Int) by omega] at h3
  have l31:=aoA (k:=(i:Int)) (by omega) (by omega)
  refine⟨D1,_,f (i:Int),rfl,SqL.of h3,l31,fun p H4 s4 np hg=>hE _ _ (s3.trans s4) ⟨ps++[p],by rw[aZ];rfl,by rw[aW,e2];rfl,?_,fun z hzm=>?_,fun j z hj=>?_⟩⟩
  ·refine List.nodup_append.mpr ⟨e3,List.pairwise_singleton _ p,fun x hx y hy=>?_⟩
   rw[bQ.mp hy]
   rintro rfl
   obtain⟨j,hj⟩:=List.getElem?_of_mem hx
   obtain⟨us,h1,_⟩:=e5 j x hj
   rw[s3 _ _ h1] at np
   cases np
  ·rcases bZ.mp hzm with h | h
   ·exact e4 z h
   ·rw[bQ.mp h]
    exact⟨(s2.trans s3).none np,fun e=>by rw[e,s3 _ _ hz] at np;cases np⟩
  ·by_cases c:j<ps.length
   ·rw[List.getElem?_append_left c] at hj
    obtain⟨us,h1,h2⟩:=e5 j z hj
    exact⟨us,(s3.trans s4) _ _ h1,Paired.mapP h2 fun _ _ y=>ahY (fun b xs w=>(s3.trans s4) _ _ w) y⟩
   ·have hl:=(cE.mp hj).1
    rw[aW] at hl
    have hl':j<ps.length+1:=hl
    obtain rfl:j=ps.length:=by omega
    rw[dN (aV _),Nat.sub_self] at hj
    obtain rfl:p=z:=bA hj
    rw[e2]
    exact hg
 case dn=>
  rintro D H2 l ⟨ps,rfl,e2,e3,e4,e5⟩ hD s2 hz
  exact q D ps H2 s2 hD hz e2 e3 e4 e5
theorem amM:Df P w K mg base "_law_joined" 1 ["_law_word","_law_one","_law_other"] (alD K):=by
 refine ZZ.da.dfs al5 (fun vs H Q E h=>?_) (fun f cdv A outer s H vs Q E hr h=>?_)
 ·obtain⟨_,_,_,rfl,_⟩:=h
  rfl
 obtain⟨wd,a,b,rfl,hw,ha,hb,q⟩:=h
 refine⟨_,(ssC (sIf (tCm oEq (v_ 0) (eSx [106,111,105,110])) (ss1 (aaH (eOp oOr (v_ 1) (v_ 2)))) ssN)
   (ssC (sIf (tCm oEq (v_ 0) (eSx [109,101,101,116])) (ss1 (aaH (eOp aoS (v_ 1) (v_ 2)))) ssN)
   (ss1 (aaH (eOp aoS (v_ 1) (eOp adN (eOp adN (eOp ahV eI eI) eI) (v_ 2))))))),?_⟩
 rcases hw with rfl | rfl | rfl
 ·rw[op_j] at q
  exact⟨_,rfl,rfl,_,rfl,anH ⟨_,rfl,_,rfl,_,_,rfl,rfl,q⟩⟩
 ·rw[op_m] at q
  exact⟨_,rfl,rfl,_,rfl,afV (by decide) ⟨_,rfl,rfl,_,rfl,anH ⟨_,rfl,_,rfl,_,_,rfl,rfl,q⟩⟩⟩
 ·rw[aNR,←aBN ha hb] at q
  exact⟨_,rfl,rfl,_,rfl,afV (by decide) ⟨_,rfl,rfl,_,rfl,afV (by decide) ⟨_,rfl,_,_,rfl,rfl,⟨by decide,by decide,by decide⟩,_,_,rfl,rfl,_,rfl,_,_,rfl,rfl,_,_,rfl,rfl,q⟩⟩⟩
theorem aeN{k0 n:Nat}{sp0:Sp}(hs:∀m,n=m+1->sp0=akV (⟨aD,aF,aG,aI,aE,aB,aH,aJ⟩:Cs) aA m)(D0:Df P w K mg base "_law_masks" (k0+40) ["_law_tree_here","_law_kind"] sp0):Df P w K mg base "_law_masks" (k0+41) ["_law_tree_here","_law_kind"] (akV (⟨aD,aF,aG,aI,aE,aB,aH,aJ⟩:Cs) aA n):=by
 refine ZZ.bp.dfs sc__law_masks (fun vs H Q E h=>?_) (fun fz cdv Ar outer s H vs Q E hr h=>?_)
 ·obtain⟨A,v,k,f,rfl,_⟩:=h
  rfl
 obtain⟨A,v,k,f,rfl,hT,hk,q⟩:=h
 refine⟨_,(ssC (av2 (v_ 0) (gTu (gsC (gN 2 sc__law_masks.nd) (gsC (gN 3 sc__law_masks.nd) gsN))))
   (ssK (aaP 4 (eIx xT (eD (hk:=by omega) (ac1 ZZ) hr (aC (v_ 1) aN)) eI) sc__law_masks.nd)
   (ssC (sIf (tCm oEq (v_ 2) (eSx [110,111,110,101])) (ss1 (aaH (eOp aCL (aaZ (aC eI aN)) (v_ 4)))) ssN)
   (ssC (sIf (tCm oEq (v_ 2) (eSx [114,111,119])) (ssK (aaP 5 (eMe (hk:=by omega) ZZ.ae.cl (aeF ZZ) hr (eIx xL (v_ 3) eI) (aC (v_ 1) aN)) sc__law_masks.nd)
   (ss1 (aaH (ac4 ["_law_parts","_law_days"] [3,5] (iR2 ZZ.ai (aC eI (aC (eOp ab1 (v_ 4) eI) aN))) (fun _ _ _ _ _ _=>fsN) (fun _ _ _ _ _ _=>(eOp amQ (eIx (xLc (K:=K)) (v_ 1) eI) (eOp aoS (eOp azY (v_ 2) (v_ 0)) eI))))))) ssN)
   (ssK (aaP 6 (eDr D0 hr (aC (eIx xL (v_ 3) eI) (aC (v_ 1) aN))) sc__law_masks.nd)
   (ssC (sIf (tCm oEq (v_ 2) (eSx [116,117,114,110])) (ss1 (aaH (ac4 [] [] (iL (v_ 6)) (fun _ _ _ _ _ _=>fsN) (fun _ _ _ _ _ _=>(eOp adN (eOp adN (eOp ahV eI eI) eI) (v_ 0)))))) ssN)
   (ssC (ah9 (iL (eSl slL (v_ 3) (poS eI) poN)) (gN 7 sc__law_masks.nd) (ssK (aaP 8 (eDr D0 hr (aC (v_ 7) (aC (v_ 1) aN))) sc__law_masks.nd)
   (ss1 (aaP 6 (ac4 ["_law_word","_law_found","_law_more"] [2,6,8] (iR1 ZZ.ai (aC (v_ 4) aN)) (fun _ _ _ _ _ _=>fsN) (fun _ _ _ _ _ _=>(eD (hk:=by omega) (amM ZZ) hr (aC (v_ 1) (aC (eIx (xLc (K:=K)) (v_ 2) (v_ 0)) (aC (eIx (xLc (K:=K)) (v_ 3) (v_ 0)) aN)))))) sc__law_masks.nd))) PassesOwn.never)
   (ss1 (aaH (v_ 6)))))))))),?_⟩
 cases n with
 |zero=>exact hT.elim
 |succ n=>
  obtain rfl:=hs n rfl
  have ml:=(afJ hk.1 hk.2).2.1
  obtain⟨t,l,wd,rfl,ht,hA,h⟩:=hT
  refine⟨_,rfl,t,_,rfl,SqT.of ht,rfl,_,_,rfl,_,_,rfl,rfl,?_⟩
  refine⟨fun σ' H'=>σ'=[some (.ref t),some (.int k),some (.str (Tx wd)),some (.ref l),some (.int (lnA k)),none,none,none,none]/\Same H H',⟨_,rfl,k,rfl,hk,fun t1 H1 s1 h1=>⟨t1,_,_,_,rfl,rfl,SqT.of (by rw[ahQ] at h1;exact h1),rfl,rfl,s1⟩⟩,?_⟩
  rintro σ' H1 ⟨rfl,s1⟩
  rcases h with ⟨rfl,hl,rfl⟩ | ⟨rfl,r,tm,hl,hr_⟩ | h
  ·refine⟨_,rfl,rfl,_,rfl,anH ⟨(zL 1),fun l2 hl2=>⟨_,rfl,l2,_,_,rfl,rfl,aaA,(by omega),(by omega),(by rw[dY];show 1*_<=_;omega),fun p hp=>q p _ (s1.trans ((aaB hl2 _).trans (aaB hp _))) ?_⟩⟩⟩
   rw[ayB]
   exact aaA
  ·obtain⟨x,dx,m0,m1,m3,dv,wv,kd,kw,rfl,hx,h3,hd,hw,_,_,rfl⟩:=hr_
   have hl1:=s1 _ _ hl
   refine⟨_,rfl,rfl,_,rfl,afV (by decide) ⟨_,rfl,rfl,_,rfl,anH ⟨fun σ' H'=>σ'=[some (.ref t),some (.int k),some (.str (Tx [114,111,119])),some (.ref l),some (.int (lnA k)),some (.int (dIn m3 kd kw k)),none,none,none]/\Same H1 H',⟨_,rfl,l,_,_,_,rfl,rfl,SqL.of hl1,rfl,x,dx,_,rfl,s1 _ _ hx,ad8 ..,_,rfl,x,dx,m0,m1,m3,tm,k,dv,wv,kd,kw,rfl,s1 _ _ hx,hk,h3.1,hd.keep s1,hw.keep s1,fun H2 s2=>⟨rfl,s2⟩⟩,?_⟩⟩⟩
   rintro σ' H2 ⟨rfl,s2⟩
   have s12:=s1.trans s2
   refine⟨_,rfl,_,_,rfl,rfl,_,_,rfl,⟨by decide,by decide,by omega,by omega⟩,adV (fun i l=>l=((List.range i).map (acO tm m3 kd kw k)).map V.int) (by show (lnA k+1-1).toNat<=sizeLine;rw[dY];omega) rfl ?_ ?_⟩
   ·intro i l' D H3 E' F' hi hR hD s3 hz hE hF
    subst hR
    have hd0:=ay8 (m3:=m3) hd hw hk.1 hk.2
    refine⟨_,rfl,l,_,_,_,rfl,rfl,SqL.of ((s12.trans s3) _ _ hl),rfl,_,rfl,_,rfl,_,_,rfl,rfl,(by show 0<=1+(i:Int);omega),_,_,rfl,rfl,_,_,rfl,rfl,.inr ?_,hE _ _ (Same.refl _) ?_⟩
    ·have h1:Builtin.bitAnd (dIn m3 kd kw k / 2^(1+(i:Int)).toNat) 1=0∨Builtin.bitAnd (dIn m3 kd kw k / 2^(1+(i:Int)).toNat) 1=1:=by
      cases c:tb (dIn m3 kd kw k) (1+(i:Int)).toNat
      ·exact .inl ((ayK hd0 _).mpr c)
      ·exact .inr ((adQ hd0 _).mpr c)
     rcases h1 with h1 | h1<;>rw[h1]<;>exact⟨by decide,by decide⟩
    ·show _++[V.int (tm*Builtin.bitAnd (dIn m3 kd kw k / 2^(1+(i:Int)).toNat) 1)]=_
     rw[aBK hd0,cC,aZ,aZ]
     rfl
   ·intro D H3 l' hR hD s3 hz
    subst hR
    refine q D H3 (s12.trans s3) ?_
    rw[hz]
    unfold aa2
    rw[show (lnA k+1-1).toNat=(lnA k).toNat by omega]
  obtain⟨us,fs,hl,hP,l1,l3,hw⟩:∃(us:List V) (fs:List DF),H l=some (.lst us)/\Paired (TrP A (⟨aD,aF,aG,aI,aE,aB,aH,aJ⟩:Cs) aA n H) us fs/\1<=us.length/\us.length<=3/\(wd=[106,111,105,110]/\f=orF fs∨wd=[109,101,101,116]/\f=anF fs∨(wd=[108,101,115,115]/\∃a b,fs=[a,b]/\f=fun k j=>Builtin.bitAnd (a k j) (Builtin.bitNot (b k j)))∨(wd=[116,117,114,110]/\∃a,fs=[a]/\f=fun k j=>Builtin.bitXor allT (a k j))):=by
   rcases h with ⟨us,fs,e,h2,h3,h4,h5⟩ | ⟨e,u1,u2,a,b,h2,h3,h4,ef⟩ | ⟨e,u1,a,h2,h3,ef⟩
   ·exact⟨us,fs,h2,h3,h4,h5,e.elim .inl fun z=>.inr (.inl z)⟩
   ·exact⟨[u1,u2],[a,b],h2,.cons h3 (.cons h4 .nil),by show 1<=2;decide,by show 2<=3;decide,.inr (.inr (.inl ⟨e,a,b,rfl,ef⟩))⟩
   ·exact⟨[u1],[a],h2,.cons h3 .nil,by show 1<=1;decide,by show 1<=3;decide,.inr (.inr (.inr ⟨e,a,rfl,ef⟩))⟩
  have n1:wd≠[110,111,110,101]/\wd≠[114,111,119]:=by
   rcases hw with ⟨rfl,_⟩ | ⟨rfl,_⟩ | ⟨rfl,_⟩ | ⟨rfl,_⟩<;>decide
  obtain⟨u0,ur,rfl⟩:∃u0 ur,us=u0::ur:=by
   cases us with
   |nil=>exact absurd l1 (by decide)
   |cons u ur=>exact⟨u,ur,rfl⟩
  obtain⟨g0,gr,rfl,hP0,hPr⟩:∃g0 gr,fs=g0::gr/\TrP A (⟨aD,aF,aG,aI,aE,aB,aH,aJ⟩:Cs) aA n H u0 g0/\Paired (TrP A (⟨aD,aF,aG,aI,aE,aB,aH,aJ⟩:Cs) aA n H) ur gr:=by
   cases hP with
   |cons h t=>exact⟨_,_,rfl,h,t⟩
  have hl1:=s1 _ _ hl
  refine⟨_,rfl,rfl,_,rfl,afV n1.1 ⟨_,rfl,rfl,_,rfl,afV n1.2 ⟨fun σ' H'=>∃D,σ'=[some (.ref t),some (.int k),some (.str (Tx wd)),some (.ref l),some (.int (lnA k)),none,some (.ref D),none,none]/\Same H1 H'/\H' D=some (.lst ((aa2 g0 k).map V.int)),⟨_,rfl,l,_,_,_,rfl,rfl,SqL.of hl1,adU (j:=0) rfl,_,rfl,A,u0,k,g0,rfl,aaU (fun _ z=>z) s1 _ hP0,hk,fun D H2 s2 h2=>⟨D,rfl,s2,h2⟩⟩,?_⟩⟩⟩
  rintro σ' H2 ⟨D,rfl,s2,hD⟩
  have s12:=s1.trans s2
  have w0:=acM n hP0
  have l31:=aoA hk.1 hk.2
  by_cases ct:wd=[116,117,114,110]
  ·obtain⟨a,e1,rfl⟩:∃a,g0::gr=[a]/\f=fun k j=>Builtin.bitXor allT (a k j):=by
    rcases hw with ⟨e,_⟩ | ⟨e,_⟩ | ⟨e,_⟩ | ⟨e,h⟩
    ·rw[ct] at e;exact absurd e (by decide)
    ·rw[ct] at e;exact absurd e (by decide)
    ·rw[ct] at e;exact absurd e (by decide)
    ·exact h
   obtain⟨rfl,rfl⟩:=List.cons.inj e1
   subst ct
   refine⟨_,rfl,rfl,_,rfl,anH ⟨_,rfl,D,rfl,⟨_,SqL.of hD⟩,acT (xs:=(aa2 g0 k).map V.int) (fun j l=>l=((List.range j).map (fun j=>Builtin.bitXor allT (g0 k j))).map V.int) (by rw[aU,abT,dY];omega) rfl (SqL.of hD) (fun j u l D3 H4 E' F' ha hR hD3 s4 hl hE hF=>?_) (fun D3 H4 l hR hD3 s4 hl=>?_)⟩⟩
   ·subst hR
    obtain⟨rfl,_⟩:=ajI ha
    refine⟨_,_,rfl,rfl,⟨by decide,by decide,by decide⟩,_,_,rfl,rfl,_,rfl,_,_,rfl,rfl,hE _ _ (Same.refl _) ?_⟩
    rw[cC,aZ,aZ]
    show _++[V.int (allT-g0 k j)]=_
    rw[ayW (w0 k j)]
    rfl
   ·subst hR
    exact q D3 H4 (s12.trans s4) (by rw[hl,aU,abT];rfl)
  have hw3:wd=[106,111,105,110]∨wd=[109,101,101,116]∨wd=[108,101,115,115]:=by
   rcases hw with ⟨e,_⟩ | ⟨e,_⟩ | ⟨e,_⟩ | ⟨e,_⟩
   ·exact .inl e
   ·exact .inr (.inl e)
   ·exact .inr (.inr e)
   ·exact absurd e ct
  have ef:f=foF wd g0 gr:=by
   rcases hw with ⟨rfl,e⟩ | ⟨rfl,e⟩ | ⟨rfl,a,b,e,ef⟩ | ⟨e,_⟩
   ·rw[e,fo_j w0]
   ·rw[e,fo_m w0]
   ·obtain⟨rfl,rfl⟩:=List.cons.inj e
    rw[ef,fo_l]
   ·exact absurd e ct
  have wr:∀z∈gr,Wt z:=fun z hz=>by
   obtain⟨a,_,ha⟩:=abL hPr z hz
   exact acM n ha
  have ec:akY (u0::ur) (some 1) none=ur:=cut1 u0 ur
  refine⟨_,rfl,rfl,_,rfl,afV ct ⟨_,rfl,_,rfl,l,_,rfl,SqL.of (s2 _ _ hl1),fun lc hlc=>?_⟩⟩
  rw[ec]
  have sc:=aaB hlc (.lst ur)
  refine⟨lc,rfl,⟨_,SqL.of aaA⟩,aeV (K:=K) (a:=lc) (xs:=ur) (fun i σ H3=>∃(D:Addr) (v7 v8:Option V),σ=[some (.ref t),some (.int k),some (.str (Tx wd)),some (.ref l),some (.int (lnA k)),none,some (.ref D),v7,v8]/\Same H2 H3/\H3 lc=some (.lst ur)/\H3 D=some (.lst ((aa2 (foF wd g0 (gr.take i)) k).map V.int))) ⟨D,_,_,rfl,sc,aaA,sc _ _ hD⟩ (fun i σ H3 _ ⟨_,_,_,_,_,h3,_⟩=>SqL.of h3) ?turn ?done⟩
  case done=>
   rintro σ H3 ⟨D3,v7,v8,rfl,s3,_,h3⟩
   rw[Paired.length hPr,bS,←ef] at h3
   exact⟨_,rfl,q D3 H3 (s12.trans s3) h3⟩
  case turn=>
   rintro i v σ H3 hv ⟨D3,v7,v8,rfl,s3,hlc3,h3⟩
   obtain⟨g,eg,hg⟩:=KM.Paired.at hPr hv
   refine⟨fun σ' H'=>∃D4,σ'=[some (.ref t),some (.int k),some (.str (Tx wd)),some (.ref l),some (.int (lnA k)),none,some (.ref D3),some v,some (.ref D4)]/\Same H3 H'/\H' D4=some (.lst ((aa2 g k).map V.int)),⟨_,rfl,_,rfl,A,v,k,g,rfl,aaU (fun _ z=>z) (s12.trans s3) _ hg,hk,fun D4 H4 s4 h4=>⟨D4,rfl,s4,h4⟩⟩,?_⟩
   rintro σ' H4 ⟨D4,rfl,s4,h4⟩
   have wf:=aGR (wd:=wd) (g:=g0) (fs:=gr.take i) w0 fun z hz=>wr z (List.mem_of_mem_take hz)
   refine⟨_,rfl,_,rfl,by omega,by omega,adV (fun j l=>l=((List.range j).map (foF wd g0 (gr.take (i+1)) k)).map V.int) (by rw[dY];omega) rfl ?_ ?_⟩
   ·intro j l' D5 H5 E' F' hj hR hD5 s5 hz hE hF
    subst hR
    have at1:∀g:DF,atI ((aa2 g k).map V.int) (0+(j:Int))=some (.int (g k j)):=fun g=>by
     rw[show (0:Int)+(j:Int)=(j:Int) by omega]
     exact adU (by unfold aa2;rw[cD,bE,dA hj];rfl)
    refine⟨_,rfl,_,rfl,_,rfl,D3,_,_,_,rfl,rfl,SqL.of ((s4.trans s5) _ _ h3),at1 _,_,rfl,_,rfl,D4,_,_,_,rfl,rfl,SqL.of (s5 _ _ h4),at1 _,wd,_,_,rfl,hw3,wf k j,acM n hg k j,hE _ _ (Same.refl _) ?_⟩
    rw[cC,aZ,aZ]
    show _=_++[V.int (foF wd g0 (gr.take (i+1)) k j)]
    rw[aA9 eg]
   ·intro D5 H5 l' hR hD5 s5 hz
    subst hR
    exact⟨D5,_,_,rfl,s3.trans (s4.trans s5),(s4.trans s5) _ _ hlc3,hz⟩
theorem apQ{k0:Nat}:Df P w K mg base "_law_masks" (k0+1) ["_law_tree_here","_law_kind"] (fun _ _ _ _=>False):=ZZ.bp.dfs sc__law_masks (fun _ _ _ _ h=>h.elim) (fun _ _ _ _ _ _ _ _ _ _ h=>h.elim)
theorem adO:∀n:Nat,Df P w K mg base "_law_masks" (n+41) ["_law_tree_here","_law_kind"] (akV (⟨aD,aF,aG,aI,aE,aB,aH,aJ⟩:Cs) aA n)
 |0=>aeN ZZ (k0:=0) (fun m h=>absurd h.symm (Nat.succ_ne_zero m)) (apQ ZZ)
 |n+1=>by
  have:=aeN ZZ (k0:=n+1) (n:=n+1) (fun m h=>congrArg (fun z=>akV (⟨aD,aF,aG,aI,aE,aB,aH,aJ⟩:Cs) aA z) (bU h)) (by rw[show n+1+40=n+41 by omega];exact adO n)
  exact this
theorem anK:Df P w K mg base "_law_pairs" 20 ["_law_a","_law_b","_law_c"] (anJ K aD aF aG aI aE aB aH aJ aA aL aQ aM aO aK aP):=by
 refine ZZ.du.dfs sc__law_pairs (fun vs H Q E h=>?_) (fun f cdv A outer s H vs Q E hr h=>?_)
 ·obtain⟨_,_,_,_,_,_,rfl,_⟩:=h
  rfl
 obtain⟨va,vb,vc,f1,f2,f3,rfl,z0,wa,wb,wc,q⟩:=h
 refine⟨_,(ssK (aaP 3 (aaZ (aC (ab8 (aC (aa5 ZZ.ab (aaG ZZ) hr aaJ (aC (aa5 ZZ.ab (aaG ZZ) hr aaJ (aC (v_ 0) aN)) aN)) (aC (v_ 0) aN))) (aC (ab8 (aC (aa5 ZZ.aa (aaF ZZ) hr aaJ (aC (aaZ (aC (v_ 0) (aC (v_ 1) aN))) aN)) (aC (aa5 ZZ.aa (aaF ZZ) hr aaJ (aC (aaZ (aC (v_ 1) (aC (v_ 0) aN))) aN)) aN))) (aC (ab8 (aC (aa5 ZZ.ad (aaL ZZ) hr aaJ (aC (aaZ (aC (v_ 0) (aC (v_ 1) aN))) aN)) (aC (aa5 ZZ.ad (aaL ZZ) hr aaJ (aC (aaZ (aC (v_ 1) (aC (v_ 0) (aC (v_ 1) aN)))) aN)) aN))) aN)))) sc__law_pairs.nd)
   (ssK (ac9 (aeE (v_ 3) (ab8 (aC (aa5 ZZ.ab (aaG ZZ) hr aaJ (aC (aa5 ZZ.aa (aaF ZZ) hr aaJ (aC (aaZ (aC (v_ 0) (aC (v_ 1) aN))) aN)) aN)) (aC (aa5 ZZ.ad (aaL ZZ) hr aaJ (aC (aaZ (aC (aa5 ZZ.ab (aaG ZZ) hr aaJ (aC (v_ 0) aN)) (aC (aa5 ZZ.ab (aaG ZZ) hr aaJ (aC (v_ 1) aN)) aN))) aN)) aN)))))
   (ssK (ac9 (aeE (v_ 3) (ab8 (aC (aa5 ZZ.ab (aaG ZZ) hr aaJ (aC (aa5 ZZ.ad (aaL ZZ) hr aaJ (aC (aaZ (aC (v_ 0) (aC (v_ 1) aN))) aN)) aN)) (aC (aa5 ZZ.aa (aaF ZZ) hr aaJ (aC (aaZ (aC (aa5 ZZ.ab (aaG ZZ) hr aaJ (aC (v_ 0) aN)) (aC (aa5 ZZ.ab (aaG ZZ) hr aaJ (aC (v_ 1) aN)) aN))) aN)) aN)))))
   (ssK (ac9 (aeE (v_ 3) (ab8 (aC (aa5 ZZ.ac (aa0 ZZ) hr aaJ (aC (v_ 0) (aC (v_ 1) aN))) (aC (aa5 ZZ.ad (aaL ZZ) hr aaJ (aC (aaZ (aC (v_ 0) (aC (aa5 ZZ.ab (aaG ZZ) hr aaJ (aC (v_ 1) aN)) aN))) aN)) aN)))))
   (ssK (ac9 (aeE (v_ 3) (ab8 (aC (aa5 ZZ.aa (aaF ZZ) hr aaJ (aC (aaZ (aC (v_ 0) (aC (aa5 ZZ.ad (aaL ZZ) hr aaJ (aC (aaZ (aC (v_ 0) (aC (v_ 1) aN))) aN)) aN))) aN)) (aC (v_ 0) aN)))))
   (ssK (ac9 (aeE (v_ 3) (ab8 (aC (aa5 ZZ.ad (aaL ZZ) hr aaJ (aC (aaZ (aC (v_ 0) (aC (aa5 ZZ.aa (aaF ZZ) hr aaJ (aC (aaZ (aC (v_ 0) (aC (v_ 1) aN))) aN)) aN))) aN)) (aC (v_ 0) aN)))))
   (ssK (ac9 (aeE (v_ 3) (ab8 (aC (aa5 ZZ.ad (aaL ZZ) hr aaJ (aC (aaZ (aC (v_ 0) (aC (aa5 ZZ.aa (aaF ZZ) hr aaJ (aC (aaZ (aC (v_ 1) (aC (v_ 2) aN))) aN)) aN))) aN)) (aC (aa5 ZZ.aa (aaF ZZ) hr aaJ (aC (aaZ (aC (aa5 ZZ.ad (aaL ZZ) hr aaJ (aC (aaZ (aC (v_ 0) (aC (v_ 1) aN))) aN)) (aC (aa5 ZZ.ad (aaL ZZ) hr aaJ (aC (aaZ (aC (v_ 0) (aC (v_ 2) aN))) aN)) aN))) aN)) aN)))))
   (ssK (ac9 (aeE (v_ 3) (ab8 (aC (aa5 ZZ.aa (aaF ZZ) hr aaJ (aC (aaZ (aC (v_ 0) (aC (aa5 ZZ.ad (aaL ZZ) hr aaJ (aC (aaZ (aC (v_ 1) (aC (v_ 2) aN))) aN)) aN))) aN)) (aC (aa5 ZZ.ad (aaL ZZ) hr aaJ (aC (aaZ (aC (aa5 ZZ.aa (aaF ZZ) hr aaJ (aC (aaZ (aC (v_ 0) (aC (v_ 1) aN))) aN)) (aC (aa5 ZZ.aa (aaF ZZ) hr aaJ (aC (aaZ (aC (v_ 0) (aC (v_ 2) aN))) aN)) aN))) aN)) aN)))))
   (ssK (ac9 (aeE (v_ 3) (ab8 (aC (aa5 ZZ.ac (aa0 ZZ) hr aaJ (aC (v_ 0) (aC (v_ 0) aN))) (aC (av7 ZZ.ag ZZ.be) aN)))))
   (ssK (ac9 (aeE (v_ 3) (ab8 (aC (aa5 ZZ.aa (aaF ZZ) hr aaJ (aC (aaZ (aC (v_ 0) (aC (aa5 ZZ.ab (aaG ZZ) hr aaJ (aC (v_ 0) aN)) aN))) aN)) (aC (aa5 ZZ.ab (aaG ZZ) hr aaJ (aC (av7 ZZ.ag ZZ.be) aN)) aN)))))
   (ssK (ac9 (aeE (v_ 3) (ab8 (aC (aa5 ZZ.ac (aa0 ZZ) hr aaJ (aC (aa5 ZZ.ac (aa0 ZZ) hr aaJ (aC (v_ 0) (aC (v_ 1) aN))) (aC (v_ 2) aN))) (aC (aa5 ZZ.ac (aa0 ZZ) hr aaJ (aC (v_ 0) (aC (aa5 ZZ.aa (aaF ZZ) hr aaJ (aC (aaZ (aC (v_ 1) (aC (v_ 2) aN))) aN)) aN))) aN)))))
   (ssK (ac9 (aeE (v_ 3) (ab8 (aC (aa5 ZZ.aa (aaF ZZ) hr aaJ (aC (aaZ (aC (aa5 ZZ.ac (aa0 ZZ) hr aaJ (aC (v_ 0) (aC (v_ 1) aN))) (aC (aa5 ZZ.ad (aaL ZZ) hr aaJ (aC (aaZ (aC (v_ 0) (aC (v_ 1) aN))) aN)) aN))) aN)) (aC (v_ 0) aN)))))
   (ssK (ac9 (aeE (v_ 3) (ab8 (aC (aa5 ZZ.ab (aaG ZZ) hr aaJ (aC (aa5 ZZ.ac (aa0 ZZ) hr aaJ (aC (v_ 0) (aC (v_ 1) aN))) aN)) (aC (aa5 ZZ.aa (aaF ZZ) hr aaJ (aC (aaZ (aC (aa5 ZZ.ab (aaG ZZ) hr aaJ (aC (v_ 0) aN)) (aC (v_ 1) aN))) aN)) aN)))))
   (ssK (ac9 (aeE (v_ 3) (ab8 (aC (aa5 ZZ.aa (aaF ZZ) hr aaJ (aC (aaZ (aC (av7 ZZ.ag ZZ.be) (aC (v_ 0) aN))) aN)) (aC (aa5 ZZ.ad (aaL ZZ) hr aaJ (aC (aaZ (aC (v_ 0) (aC (aa5 ZZ.ab (aaG ZZ) hr aaJ (aC (av7 ZZ.ag ZZ.be) aN)) aN))) aN)) aN)))))
   (ss1 (aaH (v_ 3))))))))))))))))),?_⟩
 have na:∀l:Addr,H l=none->∀p,H p≠none->p≠l:=fun l h p hp e=>hp (e▸h)
 obtain⟨PP,hPP⟩:∃PP,PP=pI (fun p=>H p≠none) (⟨aD,aF,aG,aI,aE,aB,aH,aJ⟩:Cs) aA aL aQ aM aO aK aP H va vb vc f1 f2 f3:=⟨_,rfl⟩
 refine⟨PP 3,?_,?_⟩
 ·refine⟨_,rfl,rT z0.1 (fun x1 H1 s1 q1=>?_)⟩
  replace z0:=z0.mv s1
  refine rT q1 (fun x2 H2 s2 q2=>?_)
  replace z0:=z0.mv s2
  refine⟨_,rfl,rP q2 z0.1 (id0 wa wb wc) (ab9 (ab9 wa)) (fun x3 s3 q3=>?_)⟩
  replace z0:=z0.mv s3
  have r3:=q3
  refine⟨_,rfl,_,rfl,rJ (N:=2) (.cons z0.1 (.cons z0.2.1 .nil)) (fun x4 H4 s4 q4=>?_)⟩
  replace z0:=z0.mv s4
  replace r3:=aaS s4 r3
  refine⟨_,rfl,_,rfl,rJ (N:=2) (.cons z0.2.1 (.cons z0.1 .nil)) (fun x5 H5 s5 q5=>?_)⟩
  replace z0:=z0.mv s5
  replace r3:=aaS s5 r3
  replace q4:=aaM s5 q4
  refine rP q4 q5 (id1 wa wb wc) (aa9 wa wb) (fun x6 s6 q6=>?_)
  replace z0:=z0.mv s6
  replace r3:=aaS s6 r3
  have r6:=q6
  refine⟨_,rfl,_,rfl,rM (N:=2) (.cons z0.1 (.cons z0.2.1 .nil)) (fun x7 H7 s7 q7=>?_)⟩
  replace z0:=z0.mv s7
  replace r3:=aaS s7 r3
  replace r6:=aaS s7 r6
  refine⟨_,rfl,_,rfl,_,rfl,rM (N:=3) (.cons z0.2.1 (.cons z0.1 (.cons z0.2.1 .nil))) (fun x8 H8 s8 q8=>?_)⟩
  replace z0:=z0.mv s8
  replace r3:=aaS s8 r3
  replace r6:=aaS s8 r6
  replace q7:=aaM s8 q7
  refine rP q7 q8 (id2 wa wb wc) (abI wa wb) (fun x9 s9 q9=>?_)
  replace z0:=z0.mv s9
  replace r3:=aaS s9 r3
  replace r6:=aaS s9 r6
  have r9:=q9
  refine⟨(zL 3),fun l hl=>?_⟩
  have ul:=aaB hl (.lst [.ref x3,.ref x6,.ref x9])
  rw[hPP]
  exact⟨l,[x3,x6,x9],rfl,(s1.trans (s2.trans (s3.trans (s4.trans (s5.trans (s6.trans (s7.trans (s8.trans s9)))))))).none hl,(s1.trans (s2.trans (s3.trans (s4.trans (s5.trans (s6.trans (s7.trans (s8.trans s9)))))))).trans ul,aaA,rfl,(fun p hp=>by
   simp only[aX,bV,or_false] at hp
   rcases hp with rfl | rfl | rfl
   ·exact aaS ul r3
   ·exact aaS ul r6
   ·exact aaS ul r9),z0.mv ul⟩
 rintro σ' H0 hI
 rw[hPP] at hI
 obtain⟨l,ps,rfl,nl,s0,hl,hn,hP,z0⟩:=hI
 refine⟨PP 4,?_,?_⟩
 ·refine⟨_,rfl,.inl ⟨rfl,_,SqL.of hl⟩,_,rfl,_,rfl,rJ (N:=2) (.cons z0.1 (.cons z0.2.1 .nil)) (fun x1 H1 s1 q1=>?_)⟩
  replace z0:=z0.mv s1
  refine rT q1 (fun x2 H2 s2 q2=>?_)
  replace z0:=z0.mv s2
  refine⟨_,rfl,rT z0.1 (fun x3 H3 s3 q3=>?_)⟩
  replace z0:=z0.mv s3
  replace q2:=aaM s3 q2
  refine⟨_,rfl,rT z0.2.1 (fun x4 H4 s4 q4=>?_)⟩
  replace z0:=z0.mv s4
  replace q2:=aaM s4 q2
  replace q3:=aaM s4 q3
  refine rM (N:=2) (.cons q3 (.cons q4 .nil)) (fun x5 H5 s5 q5=>?_)
  replace z0:=z0.mv s5
  replace q2:=aaM s5 q2
  refine rP q2 q5 (id3 wa wb wc) (ab9 (aa9 wa wb)) (fun x6 s6 q6=>?_)
  replace z0:=z0.mv s6
  have sA:=(s1.trans (s2.trans (s3.trans (s4.trans (s5.trans s6)))))
  obtain⟨e1,e2,e3⟩:=acG nl (s0.trans sA) (sA _ _ hl) (fun p hp=>aaS sA (hP p hp)) (na l nl) q6
  exact⟨l,_,_,rfl,rfl,sA _ _ hl,(by rw[aU,hn,dY];decide),hPP▸⟨l,ps++[x6],rfl,nl,e1,e2,(by rw[aW,hn];rfl),e3,abX (sA _ _ hl) (na l nl) z0⟩⟩
 rintro σ' H0 hI
 rw[hPP] at hI
 obtain⟨l,ps,rfl,nl,s0,hl,hn,hP,z0⟩:=hI
 refine⟨PP 5,?_,?_⟩
 ·refine⟨_,rfl,.inl ⟨rfl,_,SqL.of hl⟩,_,rfl,_,rfl,rM (N:=2) (.cons z0.1 (.cons z0.2.1 .nil)) (fun x1 H1 s1 q1=>?_)⟩
  replace z0:=z0.mv s1
  refine rT q1 (fun x2 H2 s2 q2=>?_)
  replace z0:=z0.mv s2
  refine⟨_,rfl,rT z0.1 (fun x3 H3 s3 q3=>?_)⟩
  replace z0:=z0.mv s3
  replace q2:=aaM s3 q2
  refine⟨_,rfl,rT z0.2.1 (fun x4 H4 s4 q4=>?_)⟩
  replace z0:=z0.mv s4
  replace q2:=aaM s4 q2
  replace q3:=aaM s4 q3
  refine rJ (N:=2) (.cons q3 (.cons q4 .nil)) (fun x5 H5 s5 q5=>?_)
  replace z0:=z0.mv s5
  replace q2:=aaM s5 q2
  refine rP q2 q5 (id4 wa wb wc) (ab9 (abI wa wb)) (fun x6 s6 q6=>?_)
  replace z0:=z0.mv s6
  have sA:=(s1.trans (s2.trans (s3.trans (s4.trans (s5.trans s6)))))
  obtain⟨e1,e2,e3⟩:=acG nl (s0.trans sA) (sA _ _ hl) (fun p hp=>aaS sA (hP p hp)) (na l nl) q6
  exact⟨l,_,_,rfl,rfl,sA _ _ hl,(by rw[aU,hn,dY];decide),hPP▸⟨l,ps++[x6],rfl,nl,e1,e2,(by rw[aW,hn];rfl),e3,abX (sA _ _ hl) (na l nl) z0⟩⟩
 rintro σ' H0 hI
 rw[hPP] at hI
 obtain⟨l,ps,rfl,nl,s0,hl,hn,hP,z0⟩:=hI
 refine⟨PP 6,?_,?_⟩
 ·refine⟨_,rfl,.inl ⟨rfl,_,SqL.of hl⟩,_,rfl,_,rfl,rL z0.1 z0.2.1 (fun x1 H1 s1 q1=>?_)⟩
  replace z0:=z0.mv s1
  refine⟨_,rfl,_,rfl,rT z0.2.1 (fun x2 H2 s2 q2=>?_)⟩
  replace z0:=z0.mv s2
  replace q1:=aaM s2 q1
  refine rM (N:=2) (.cons (ae3 (m:=3) (U:=5) (by decide) (by decide) z0.1) (.cons q2 .nil)) (fun x3 H3 s3 q3=>?_)
  replace z0:=z0.mv s3
  replace q1:=aaM s3 q1
  refine rP q1 q3 (id5 wa wb wc) (afU wa wb) (fun x4 s4 q4=>?_)
  replace z0:=z0.mv s4
  have sA:=(s1.trans (s2.trans (s3.trans s4)))
  obtain⟨e1,e2,e3⟩:=acG nl (s0.trans sA) (sA _ _ hl) (fun p hp=>aaS sA (hP p hp)) (na l nl) q4
  exact⟨l,_,_,rfl,rfl,sA _ _ hl,(by rw[aU,hn,dY];decide),hPP▸⟨l,ps++[x4],rfl,nl,e1,e2,(by rw[aW,hn];rfl),e3,abX (sA _ _ hl) (na l nl) z0⟩⟩
 rintro σ' H0 hI
 rw[hPP] at hI
 obtain⟨l,ps,rfl,nl,s0,hl,hn,hP,z0⟩:=hI
 refine⟨PP 7,?_,?_⟩
 ·refine⟨_,rfl,.inl ⟨rfl,_,SqL.of hl⟩,_,rfl,_,rfl,_,rfl,rM (N:=2) (.cons z0.1 (.cons z0.2.1 .nil)) (fun x1 H1 s1 q1=>?_)⟩
  replace z0:=z0.mv s1
  refine rJ (N:=2) (.cons (ae3 (m:=3) (U:=9) (by decide) (by decide) z0.1) (.cons q1 .nil)) (fun x2 H2 s2 q2=>?_)
  replace z0:=z0.mv s2
  refine⟨_,rfl,rP q2 z0.1 (id6 wa wb wc) (aa9 wa (abI wa wb)) (fun x3 s3 q3=>?_)⟩
  replace z0:=z0.mv s3
  have sA:=(s1.trans (s2.trans s3))
  obtain⟨e1,e2,e3⟩:=acG nl (s0.trans sA) (sA _ _ hl) (fun p hp=>aaS sA (hP p hp)) (na l nl) q3
  exact⟨l,_,_,rfl,rfl,sA _ _ hl,(by rw[aU,hn,dY];decide),hPP▸⟨l,ps++[x3],rfl,nl,e1,e2,(by rw[aW,hn];rfl),e3,abX (sA _ _ hl) (na l nl) z0⟩⟩
 rintro σ' H0 hI
 rw[hPP] at hI
 obtain⟨l,ps,rfl,nl,s0,hl,hn,hP,z0⟩:=hI
 refine⟨PP 8,?_,?_⟩
 ·refine⟨_,rfl,.inl ⟨rfl,_,SqL.of hl⟩,_,rfl,_,rfl,_,rfl,rJ (N:=2) (.cons z0.1 (.cons z0.2.1 .nil)) (fun x1 H1 s1 q1=>?_)⟩
  replace z0:=z0.mv s1
  refine rM (N:=2) (.cons (ae3 (m:=3) (U:=9) (by decide) (by decide) z0.1) (.cons q1 .nil)) (fun x2 H2 s2 q2=>?_)
  replace z0:=z0.mv s2
  refine⟨_,rfl,rP q2 z0.1 (id7 wa wb wc) (abI wa (aa9 wa wb)) (fun x3 s3 q3=>?_)⟩
  replace z0:=z0.mv s3
  have sA:=(s1.trans (s2.trans s3))
  obtain⟨e1,e2,e3⟩:=acG nl (s0.trans sA) (sA _ _ hl) (fun p hp=>aaS sA (hP p hp)) (na l nl) q3
  exact⟨l,_,_,rfl,rfl,sA _ _ hl,(by rw[aU,hn,dY];decide),hPP▸⟨l,ps++[x3],rfl,nl,e1,e2,(by rw[aW,hn];rfl),e3,abX (sA _ _ hl) (na l nl) z0⟩⟩
 rintro σ' H0 hI
 rw[hPP] at hI
 obtain⟨l,ps,rfl,nl,s0,hl,hn,hP,z0⟩:=hI
 refine⟨PP 9,?_,?_⟩
 ·refine⟨_,rfl,.inl ⟨rfl,_,SqL.of hl⟩,_,rfl,_,rfl,_,rfl,rJ (N:=2) (.cons z0.2.1 (.cons z0.2.2 .nil)) (fun x1 H1 s1 q1=>?_)⟩
  replace z0:=z0.mv s1
  refine rM (N:=2) (.cons (ae3 (m:=3) (U:=9) (by decide) (by decide) z0.1) (.cons q1 .nil)) (fun x2 H2 s2 q2=>?_)
  replace z0:=z0.mv s2
  refine⟨_,rfl,_,rfl,rM (N:=2) (.cons z0.1 (.cons z0.2.1 .nil)) (fun x3 H3 s3 q3=>?_)⟩
  replace z0:=z0.mv s3
  replace q2:=aaM s3 q2
  refine⟨_,rfl,_,rfl,rM (N:=2) (.cons z0.1 (.cons z0.2.2 .nil)) (fun x4 H4 s4 q4=>?_)⟩
  replace z0:=z0.mv s4
  replace q2:=aaM s4 q2
  replace q3:=aaM s4 q3
  refine rJ (N:=2) (.cons q3 (.cons q4 .nil)) (fun x5 H5 s5 q5=>?_)
  replace z0:=z0.mv s5
  replace q2:=aaM s5 q2
  refine rP q2 q5 (id8 wa wb wc) (abI wa (aa9 wb wc)) (fun x6 s6 q6=>?_)
  replace z0:=z0.mv s6
  have sA:=(s1.trans (s2.trans (s3.trans (s4.trans (s5.trans s6)))))
  obtain⟨e1,e2,e3⟩:=acG nl (s0.trans sA) (sA _ _ hl) (fun p hp=>aaS sA (hP p hp)) (na l nl) q6
  exact⟨l,_,_,rfl,rfl,sA _ _ hl,(by rw[aU,hn,dY];decide),hPP▸⟨l,ps++[x6],rfl,nl,e1,e2,(by rw[aW,hn];rfl),e3,abX (sA _ _ hl) (na l nl) z0⟩⟩
 rintro σ' H0 hI
 rw[hPP] at hI
 obtain⟨l,ps,rfl,nl,s0,hl,hn,hP,z0⟩:=hI
 refine⟨PP 10,?_,?_⟩
 ·refine⟨_,rfl,.inl ⟨rfl,_,SqL.of hl⟩,_,rfl,_,rfl,_,rfl,rM (N:=2) (.cons z0.2.1 (.cons z0.2.2 .nil)) (fun x1 H1 s1 q1=>?_)⟩
  replace z0:=z0.mv s1
  refine rJ (N:=2) (.cons (ae3 (m:=3) (U:=9) (by decide) (by decide) z0.1) (.cons q1 .nil)) (fun x2 H2 s2 q2=>?_)
  replace z0:=z0.mv s2
  refine⟨_,rfl,_,rfl,rJ (N:=2) (.cons z0.1 (.cons z0.2.1 .nil)) (fun x3 H3 s3 q3=>?_)⟩
  replace z0:=z0.mv s3
  replace q2:=aaM s3 q2
  refine⟨_,rfl,_,rfl,rJ (N:=2) (.cons z0.1 (.cons z0.2.2 .nil)) (fun x4 H4 s4 q4=>?_)⟩
  replace z0:=z0.mv s4
  replace q2:=aaM s4 q2
  replace q3:=aaM s4 q3
  refine rM (N:=2) (.cons q3 (.cons q4 .nil)) (fun x5 H5 s5 q5=>?_)
  replace z0:=z0.mv s5
  replace q2:=aaM s5 q2
  refine rP q2 q5 (id9 wa wb wc) (aa9 wa (abI wb wc)) (fun x6 s6 q6=>?_)
  replace z0:=z0.mv s6
  have sA:=(s1.trans (s2.trans (s3.trans (s4.trans (s5.trans s6)))))
  obtain⟨e1,e2,e3⟩:=acG nl (s0.trans sA) (sA _ _ hl) (fun p hp=>aaS sA (hP p hp)) (na l nl) q6
  exact⟨l,_,_,rfl,rfl,sA _ _ hl,(by rw[aU,hn,dY];decide),hPP▸⟨l,ps++[x6],rfl,nl,e1,e2,(by rw[aW,hn];rfl),e3,abX (sA _ _ hl) (na l nl) z0⟩⟩
 rintro σ' H0 hI
 rw[hPP] at hI
 obtain⟨l,ps,rfl,nl,s0,hl,hn,hP,z0⟩:=hI
 refine⟨PP 11,?_,?_⟩
 ·refine⟨_,rfl,.inl ⟨rfl,_,SqL.of hl⟩,_,rfl,_,rfl,rL z0.1 z0.1 (fun x1 H1 s1 q1=>?_)⟩
  replace z0:=z0.mv s1
  refine rZ z0 (fun x2 d2 s2 q2=>?_)
  replace z0:=z0.mv s2
  replace q1:=aaM s2 q1
  refine rP q1 q2 (id10 wa wb wc) (afU wa wa) (fun x3 s3 q3=>?_)
  replace z0:=z0.mv s3
  have sA:=(s1.trans (s2.trans s3))
  obtain⟨e1,e2,e3⟩:=acG nl (s0.trans sA) (sA _ _ hl) (fun p hp=>aaS sA (hP p hp)) (na l nl) q3
  exact⟨l,_,_,rfl,rfl,sA _ _ hl,(by rw[aU,hn,dY];decide),hPP▸⟨l,ps++[x3],rfl,nl,e1,e2,(by rw[aW,hn];rfl),e3,abX (sA _ _ hl) (na l nl) z0⟩⟩
 rintro σ' H0 hI
 rw[hPP] at hI
 obtain⟨l,ps,rfl,nl,s0,hl,hn,hP,z0⟩:=hI
 refine⟨PP 12,?_,?_⟩
 ·refine⟨_,rfl,.inl ⟨rfl,_,SqL.of hl⟩,_,rfl,_,rfl,rT z0.1 (fun x1 H1 s1 q1=>?_)⟩
  replace z0:=z0.mv s1
  refine rJ (N:=2) (.cons (ae3 (m:=3) (U:=5) (by decide) (by decide) z0.1) (.cons q1 .nil)) (fun x2 H2 s2 q2=>?_)
  replace z0:=z0.mv s2
  refine rZ z0 (fun x3 d3 s3 q3=>?_)
  replace z0:=z0.mv s3
  replace q2:=aaM s3 q2
  refine rT q3 (fun x4 H4 s4 q4=>?_)
  replace z0:=z0.mv s4
  replace q2:=aaM s4 q2
  refine rP q2 q4 (id11 wa wb wc) (aa9 wa (ab9 wa)) (fun x5 s5 q5=>?_)
  replace z0:=z0.mv s5
  have sA:=(s1.trans (s2.trans (s3.trans (s4.trans s5))))
  obtain⟨e1,e2,e3⟩:=acG nl (s0.trans sA) (sA _ _ hl) (fun p hp=>aaS sA (hP p hp)) (na l nl) q5
  exact⟨l,_,_,rfl,rfl,sA _ _ hl,(by rw[aU,hn,dY];decide),hPP▸⟨l,ps++[x5],rfl,nl,e1,e2,(by rw[aW,hn];rfl),e3,abX (sA _ _ hl) (na l nl) z0⟩⟩
 rintro σ' H0 hI
 rw[hPP] at hI
 obtain⟨l,ps,rfl,nl,s0,hl,hn,hP,z0⟩:=hI
 refine⟨PP 13,?_,?_⟩
 ·refine⟨_,rfl,.inl ⟨rfl,_,SqL.of hl⟩,_,rfl,_,rfl,rL z0.1 z0.2.1 (fun x1 H1 s1 q1=>?_)⟩
  replace z0:=z0.mv s1
  refine⟨_,rfl,rL q1 (ae3 (m:=3) (U:=9) (by decide) (by decide) z0.2.2) (fun x2 H2 s2 q2=>?_)⟩
  replace z0:=z0.mv s2
  refine⟨_,rfl,_,rfl,_,rfl,rJ (N:=2) (.cons z0.2.1 (.cons z0.2.2 .nil)) (fun x3 H3 s3 q3=>?_)⟩
  replace z0:=z0.mv s3
  replace q2:=aaM s3 q2
  refine rL (ae3 (m:=3) (U:=9) (by decide) (by decide) z0.1) q3 (fun x4 H4 s4 q4=>?_)
  replace z0:=z0.mv s4
  replace q2:=aaM s4 q2
  refine rP q2 q4 (id12 wa wb wc) (afU (afU wa wb) wc) (fun x5 s5 q5=>?_)
  replace z0:=z0.mv s5
  have sA:=(s1.trans (s2.trans (s3.trans (s4.trans s5))))
  obtain⟨e1,e2,e3⟩:=acG nl (s0.trans sA) (sA _ _ hl) (fun p hp=>aaS sA (hP p hp)) (na l nl) q5
  exact⟨l,_,_,rfl,rfl,sA _ _ hl,(by rw[aU,hn,dY];decide),hPP▸⟨l,ps++[x5],rfl,nl,e1,e2,(by rw[aW,hn];rfl),e3,abX (sA _ _ hl) (na l nl) z0⟩⟩
 rintro σ' H0 hI
 rw[hPP] at hI
 obtain⟨l,ps,rfl,nl,s0,hl,hn,hP,z0⟩:=hI
 refine⟨PP 14,?_,?_⟩
 ·refine⟨_,rfl,.inl ⟨rfl,_,SqL.of hl⟩,_,rfl,_,rfl,rL z0.1 z0.2.1 (fun x1 H1 s1 q1=>?_)⟩
  replace z0:=z0.mv s1
  refine⟨_,rfl,_,rfl,rM (N:=2) (.cons z0.1 (.cons z0.2.1 .nil)) (fun x2 H2 s2 q2=>?_)⟩
  replace z0:=z0.mv s2
  replace q1:=aaM s2 q1
  refine rJ (N:=2) (.cons q1 (.cons q2 .nil)) (fun x3 H3 s3 q3=>?_)
  replace z0:=z0.mv s3
  refine⟨_,rfl,rP q3 z0.1 (id13 wa wb wc) (aa9 (afU wa wb) (abI wa wb)) (fun x4 s4 q4=>?_)⟩
  replace z0:=z0.mv s4
  have sA:=(s1.trans (s2.trans (s3.trans s4)))
  obtain⟨e1,e2,e3⟩:=acG nl (s0.trans sA) (sA _ _ hl) (fun p hp=>aaS sA (hP p hp)) (na l nl) q4
  exact⟨l,_,_,rfl,rfl,sA _ _ hl,(by rw[aU,hn,dY];decide),hPP▸⟨l,ps++[x4],rfl,nl,e1,e2,(by rw[aW,hn];rfl),e3,abX (sA _ _ hl) (na l nl) z0⟩⟩
 rintro σ' H0 hI
 rw[hPP] at hI
 obtain⟨l,ps,rfl,nl,s0,hl,hn,hP,z0⟩:=hI
 refine⟨PP 15,?_,?_⟩
 ·refine⟨_,rfl,.inl ⟨rfl,_,SqL.of hl⟩,_,rfl,_,rfl,rL z0.1 z0.2.1 (fun x1 H1 s1 q1=>?_)⟩
  replace z0:=z0.mv s1
  refine rT q1 (fun x2 H2 s2 q2=>?_)
  replace z0:=z0.mv s2
  refine⟨_,rfl,rT z0.1 (fun x3 H3 s3 q3=>?_)⟩
  replace z0:=z0.mv s3
  replace q2:=aaM s3 q2
  refine⟨_,rfl,rJ (N:=2) (.cons q3 (.cons (ae3 (m:=3) (U:=5) (by decide) (by decide) z0.2.1) .nil)) (fun x4 H4 s4 q4=>?_)⟩
  replace z0:=z0.mv s4
  replace q2:=aaM s4 q2
  refine rP q2 q4 (id14 wa wb wc) (ab9 (afU wa wb)) (fun x5 s5 q5=>?_)
  replace z0:=z0.mv s5
  have sA:=(s1.trans (s2.trans (s3.trans (s4.trans s5))))
  obtain⟨e1,e2,e3⟩:=acG nl (s0.trans sA) (sA _ _ hl) (fun p hp=>aaS sA (hP p hp)) (na l nl) q5
  exact⟨l,_,_,rfl,rfl,sA _ _ hl,(by rw[aU,hn,dY];decide),hPP▸⟨l,ps++[x5],rfl,nl,e1,e2,(by rw[aW,hn];rfl),e3,abX (sA _ _ hl) (na l nl) z0⟩⟩
 rintro σ' H0 hI
 rw[hPP] at hI
 obtain⟨l,ps,rfl,nl,s0,hl,hn,hP,z0⟩:=hI
 refine⟨PP 16,?_,?_⟩
 ·refine⟨_,rfl,.inl ⟨rfl,_,SqL.of hl⟩,rZ z0 (fun x1 d1 s1 q1=>?_)⟩
  replace z0:=z0.mv s1
  refine⟨_,rfl,rJ (N:=2) (.cons (ae3 (m:=2) (U:=4) (by decide) (by decide) q1) (.cons z0.1 .nil)) (fun x2 H2 s2 q2=>?_)⟩
  replace z0:=z0.mv s2
  refine⟨_,rfl,rZ z0 (fun x3 d3 s3 q3=>?_)⟩
  replace z0:=z0.mv s3
  replace q2:=aaM s3 q2
  refine rT q3 (fun x4 H4 s4 q4=>?_)
  replace z0:=z0.mv s4
  replace q2:=aaM s4 q2
  refine rM (N:=2) (.cons z0.1 (.cons (ae3 (m:=2) (U:=4) (by decide) (by decide) q4) .nil)) (fun x5 H5 s5 q5=>?_)
  replace z0:=z0.mv s5
  replace q2:=aaM s5 q2
  refine rP q2 q5 (id15 wa wb wc) (aa9 aoZ wa) (fun x6 s6 q6=>?_)
  replace z0:=z0.mv s6
  have sA:=(s1.trans (s2.trans (s3.trans (s4.trans (s5.trans s6)))))
  obtain⟨e1,e2,e3⟩:=acG nl (s0.trans sA) (sA _ _ hl) (fun p hp=>aaS sA (hP p hp)) (na l nl) q6
  exact⟨l,_,_,rfl,rfl,sA _ _ hl,(by rw[aU,hn,dY];decide),hPP▸⟨l,ps++[x6],rfl,nl,e1,e2,(by rw[aW,hn];rfl),e3,abX (sA _ _ hl) (na l nl) z0⟩⟩
 rintro σ' H0 hI
 rw[hPP] at hI
 obtain⟨l,ps,rfl,nl,s0,hl,hn,hP,z0⟩:=hI
 exact⟨_,rfl,q l ps H0 s0 hl hn hP⟩
theorem aoR:Df P w K mg base "_law_rare" 12 ["_law_cell","_law_mixed"] (apO K aD aF aG aI aE aB aH aJ aA):=by
 refine ZZ.d9.dfs sc__law_rare (fun vs H Q E h=>?_) (fun f cdv A outer s H vs Q E hr h=>?_)
 ·obtain⟨_,_,rfl,_⟩:=h
  rfl
 obtain⟨c,bm,rfl,q⟩:=h
 refine⟨_,(ssK (aaP 2 (eD (acA ZZ) hr (aC (v_ 0) (aC (aaZ (axB [7,7,60,24])) (aC (v_ 1) aN)))) sc__law_rare.nd)
   (ssK (aaP 3 (eCT acV ZZ.af PyProof.Rows.boot_str (aC (eIx xL (v_ 2) eI) aN)) sc__law_rare.nd)
   (ssK (aaP 4 (aaZ (aC (eOp abO (eOp abO (eSx [42,32,50,32]) (v_ 3)) (eSx [35,53])) (aC (eSx [50,57,32,50,32,42]) (aC (eSx [51,49,32,49,44,51,32,42]) (aC (eSx [76,87,32,50,32,42]) (aC (eOp abO (eOp abO (eSx [42,32,42,32]) (v_ 3)) (eSx [35,53])) (aC (eSx [49,87,32,49,49,32,42]) (aC (eSx [51,48,32,50,32,42]) aN)))))))) sc__law_rare.nd)
   (ss1 (aaH (eD (ai1 ZZ) hr (aC (eOp abO (eOp abO (eOp abO (eOp abO (eCT acV ZZ.af PyProof.Rows.boot_str (aC (eIx xL (v_ 2) eI) aN)) (eSx [32])) (eCT acV ZZ.af PyProof.Rows.boot_str (aC (eIx xL (v_ 2) eI) aN))) (eSx [32])) (eIx xL (v_ 4) (eIx xL (v_ 2) eI))) aN))))))),?_⟩
 refine⟨fun σ' H'=>∃(p:Addr) (i d m h:Nat),σ'=[some (.int c),some (.bl bm),some (.ref p),none,none]/\Same H H'/\H' p=some (.lst [.int i,.int d,.int m,.int h])/\i<7/\d<7/\m<60/\h<24,?_,?_⟩
 ·refine⟨_,rfl,(zL 4),fun ls hls=>⟨_,rfl,c,ls,bm,[7,7,60,24],rfl,SqL.of aaA,(by decide),(by decide),fun ds p H1 s1 hp hd=>?_⟩⟩
  obtain⟨x0,r0,rfl,b0,hd⟩:=aaO hd
  obtain⟨x1,r1,rfl,b1,hd⟩:=aaO hd
  obtain⟨x2,r2,rfl,b2,hd⟩:=aaO hd
  obtain⟨x3,r3,rfl,b3,hd⟩:=aaO hd
  obtain rfl:=akP hd
  obtain⟨i,rfl⟩:=bH b0.1
  obtain⟨d,rfl⟩:=bH b1.1
  obtain⟨m,rfl⟩:=bH b2.1
  obtain⟨h,rfl⟩:=bH b3.1
  exact⟨p,i,d,m,h,rfl,(aaB hls _).trans s1,hp,by omega,by omega,by omega,by omega⟩
 rintro σ' H1 ⟨p,i,d,m,h,rfl,s1,hp,hi,hd,hm,hh⟩
 have z4':∀{n m:Nat},n<=20->m<=20->n+m<=sizeLine:=fun {n m} h1 h2=>by rw[dY];omega
 have ld:(num d).length<=2:=(acC d (by omega)).2.2.2
 have lm:(num m).length<=2:=(acC m (by omega)).2.2.2
 have lh:(num h).length<=2:=(acC h (by omega)).2.2.2
 have big:∀{z:Nat},z<=99->z<10^500:=fun h=>a9 (Nat.lt_succ_of_le h) (by decide +kernel)
 refine⟨fun σ' H'=>σ'=[some (.int c),some (.bl bm),some (.ref p),some (.str (Tx (num d))),none]/\H'=H1,⟨_,rfl,p,_,_,_,rfl,rfl,SqL.of hp,rfl,d,rfl,big (by omega),rfl,rfl⟩,?_⟩
 rintro σ' H' ⟨rfl,rfl⟩
 refine⟨fun σ' H2=>∃l,σ'=[some (.int c),some (.bl bm),some (.ref p),some (.str (Tx (num d))),some (.ref l)]/\Same H' H2/\H2 l=some (.lst ((auP d).map fun t=>V.str (Tx t))),⟨_,rfl,_,_,rfl,rfl,z4' (by decide) (by omega),_,_,rfl,rfl,z4' (by rw[aW];show 4+_<=20;omega) (by decide),_,rfl,_,_,rfl,rfl,z4' (by decide) (by omega),_,_,rfl,rfl,z4' (by rw[aW];show 4+_<=20;omega) (by decide),(zL 7),fun l hl=>⟨l,rfl,aaB hl _,aaA⟩⟩,?_⟩
 rintro σ' H2 ⟨l,rfl,s2,hl⟩
 obtain⟨t,ht,et⟩:=asO (ts:=auP d) (i:=(i:Int)) (by omega) (by show (i:Int)<7;omega)
 obtain⟨w2,w3,w4,m3,kd,kw,e,f3,d2,d4,lt⟩:=aBE (d:=d) (by omega) t ht
 obtain⟨m0,f0,b0⟩:=axR (lo:=0) (hi:=59) (ws:=[num (m:Int).toNat]) (nss:=[[(m:Int)]]) (.cons (i1 (a:=(m:Int)) (by decide) (by omega) (by omega) (by decide)) .nil) (bN _ _) (by show 1<=20;decide) (by decide) (by decide)
 obtain⟨m1,f1,b1⟩:=axR (lo:=0) (hi:=23) (ws:=[num (h:Int).toNat]) (nss:=[[(h:Int)]]) (.cons (i1 (a:=(h:Int)) (by decide) (by omega) (by omega) (by decide)) .nil) (bN _ _) (by show 1<=20;decide) (by decide) (by decide)
 rw[bP] at f0 f1
 have hp2:=s2 _ _ hp
 refine⟨_,rfl,p,_,_,_,rfl,rfl,SqL.of hp2,rfl,m,rfl,big (by omega),_,_,rfl,rfl,z4' (by omega) (by decide),_,rfl,p,_,_,_,rfl,rfl,SqL.of hp2,rfl,h,rfl,big (by omega),_,_,rfl,rfl,z4' (by rw[aW];show _+1<=20;omega) (by omega),_,_,rfl,rfl,z4' (by rw[aW,aW];show _+1+_<=20;omega) (by decide),_,rfl,_,rfl,p,_,_,_,rfl,rfl,SqL.of hp2,rfl,l,_,_,_,rfl,rfl,SqL.of hl,et,_,_,rfl,rfl,z4' (by rw[aW,aW,aW];show _+1+_+1<=20;omega) lt,num m,num h,w2,w3,w4,m0,m1,m3,kd,kw,?_,f0,f1,f3,d2,d4,⟨b0,b1⟩,fun x dx dv wv tm H7 htm s7 hx hdv hwv fr=>?_⟩
 ·rw[e]
  congr 3
  simp[aa1]
 ·have sB:=s1.trans s2
  exact q x dx m0 m1 m3 tm dv wv _ _ H7 (sB.trans s7) hx ⟨f3.nn,htm⟩ hdv hwv ⟨sB.none fr.1,fun p e=>sB.none (fr.2.1 p e),fun p e=>sB.none (fr.2.2 p e)⟩
theorem ak1:Df P w K mg base "_law_unlike" 45 ["_law_one","_law_other"] (al6 K aD aF aG aI aE aB aH aJ aA):=by
 refine ZZ.db.dfs sc__law_unlike (fun vs H Q E h=>?_) (fun f cdv A outer s H vs Q E hr h=>?_)
 ·obtain⟨_,_,_,_,_,_,rfl,_⟩:=h
  rfl
 obtain⟨A,B,u,v,f,g,rfl,hu,hv,q⟩:=h
 refine⟨_,(ssC (ah9 (iR1 ZZ.ai (aC eI aN)) (gN 2 sc__law_unlike.nd) (ss1 (sIf (tCm (oNeI hr.units) (eD (adO ZZ 3) hr (aC (v_ 0) (aC (v_ 2) aN))) (eD (adO ZZ 3) hr (aC (v_ 1) (aC (v_ 2) aN)))) (ss1 (aaH eB)) ssN)) PassesOwn.never)
   (ss1 (aaH eB))),?_⟩
 have done:∀H',Same H H'->(∀k:Nat,k<91->aa2 f (k:Int)=aa2 g (k:Int))->Q (.bl false) H':=fun H' s' h=>by
  have e:ulB f g=false:=by
   unfold ulB
   rw[cQ]
   intro k hk
   rw[d6 (h k (b6.mp hk))]
   decide
  rw[←e]
  exact q H' s'
 refine⟨_,rfl,by decide,by decide,an2 (fun i σ H2=>∃v2:Option V,σ=[some u,some v,v2]/\Same H H2/\∀k:Nat,k<i->aa2 f (k:Int)=aa2 g (k:Int)) ⟨_,rfl,Same.refl _,fun k hk=>absurd hk (Nat.not_lt_zero k)⟩ ?turn ?done⟩
 case done=>
  rintro σ H2 ⟨v2,rfl,s2,h2⟩
  exact done H2 s2 h2
 case turn=>
  rintro i σ H2 hi ⟨v2,rfl,s2,h2⟩
  have hi':i<91:=hi
  refine⟨_,rfl,_,rfl,A,u,(0+(i:Int)),f,rfl,aaU (fun _ z=>z) s2 _ hu,⟨by omega,by omega⟩,fun D1 H3 s3 h3=>⟨_,rfl,_,rfl,B,v,(0+(i:Int)),g,rfl,aaU (fun _ z=>z) (s2.trans s3) _ hv,⟨by omega,by omega⟩,fun D2 H4 s4 h4=>⟨D1,D2,false,_,_,rfl,rfl,SqL.of (s4 _ _ h3),SqL.of h4,_,rfl,?_⟩⟩⟩
  rw[show (0:Int)+(i:Int)=(i:Int) by omega]
  by_cases c:aa2 f (i:Int)=aa2 g (i:Int)
  ·refine ifF (by rw[d6 c];rfl) ⟨_,rfl,s2.trans (s3.trans s4),fun k hk=>?_⟩
   rcases Nat.lt_or_ge k i with z | z
   ·exact h2 k z
   ·rw[show k=i by omega];exact c
  ·have e:ulB f g=true:=by
    unfold ulB
    rw[List.any_eq_true]
    exact⟨i,b6.mpr hi',by rw[d8 c];rfl⟩
   rw[e] at q
   exact ifT (by rw[d8 c];rfl) (q _ (s2.trans (s3.trans s4)))
theorem aEK{fL:Addr}{fdL:FuncData}(F:Fun K "law" "law" aoD fL fdL):FnOk P w K mg base CX0 46 fL fdL ["_law_script"] (ap2 K):=by
 refine F.oks sc_law (fun vs H Q E h=>?_) (fun cdv A outer s H vs Q E hr h=>?_)
 ·obtain⟨_,_,rfl,_⟩:=h
  rfl
 obtain⟨a,ns,rfl,hS,hlen,q⟩:=h
 refine⟨_,(ssC (aaP 1 (aiQ oEq (eOp adS (eD (abN ZZ) hr (aC (v_ 0) (aC eI aN))) eI) eI) sc_law.nd)
   (ssK (aaP 2 (eD (acA ZZ) hr (aC (eOp av5 (eD (abN ZZ) hr (aC (v_ 0) (aC eI aN))) eI) (aC (aaZ (axB [16,2,3,3,3])) (aC (v_ 1) aN)))) sc_law.nd)
   (ssK (au7 3 ["_law_script","_law_mixed","_law_parts"] [0,1,2] (iR1 ZZ.ai (aC eI aN)) (fun _ _ _ _ _ _=>fsN) (fun _ _ _ _ _ _=>(abS (eD (ae1 ZZ 0) hr (aC (v_ 1) (aC (eOp ab1 eI (v_ 0)) (aC (eOp av5 (eIx (xLc (K:=K)) (v_ 3) (eOp ab1 eI (v_ 0))) eI) (aC (v_ 2) aN))))) (eD (ae1 ZZ 1) hr (aC (v_ 1) (aC (eOp ab1 eI (v_ 0)) (aC (eOp av5 (eIx (xLc (K:=K)) (v_ 3) (eOp ab1 eI (v_ 0))) eI) (aC (v_ 2) aN))))))) sc_law.nd)
   (ssK (au7 4 [] [] (iL (v_ 3)) (fun _ _ _ _ _ _=>fsN) (fun _ _ _ _ _ _=>(eD (aeK ZZ 2) hr (aC (v_ 0) aN))) sc_law.nd)
   (ssK (aaP 5 (eD (anK ZZ) hr (aC (eIx xL (v_ 4) eI) (aC (eIx xL (v_ 4) eI) (aC (eIx xL (v_ 4) eI) aN)))) sc_law.nd)
   (ssK (av2 (eIx xL (v_ 5) (eIx xL (v_ 2) eI)) (gTu (gsC (gN 6 sc_law.nd) (gsC (gN 7 sc_law.nd) gsN))))
   (ssK (sIf (tCm (aD2 hr.units) (eD (ab5 ZZ) hr (aC (v_ 6) aN)) (eD (ab5 ZZ) hr (aC (v_ 7) aN))) (ss1 (aaH eB)) ssN)
   (ssK (aaP 8 (eD (aoR ZZ) hr (aC (eD (abN ZZ) hr (aC (v_ 0) (aC eI aN))) (aC (v_ 1) aN))) sc_law.nd)
   (ssK (aaP 9 (ab8 (aC (eSx [114,111,119]) (aC (aaZ (aC (v_ 8) (aC (aEY ZZ.ae.cl (ahH ZZ) hr (v_ 8)) aN))) aN))) sc_law.nd)
   (ssK (aaP 10 (ab8 (aC (eIx xL (aaZ (aC (eSx [108,101,115,115]) (aC (eSx [106,111,105,110]) aN))) (eIx xL (v_ 2) eI)) (aC (aaZ (aC (eIx xL (v_ 3) eI) (aC (v_ 9) aN))) aN))) sc_law.nd)
   (ssK (aaP 11 (eD (aeK ZZ 3) hr (aC (v_ 10) aN)) sc_law.nd)
   (ssK (aaP 12 (aiQ (aD2 hr.units) (eD (ab5 ZZ) hr (aC (eIx xL (v_ 4) eI) aN)) (eD (ab5 ZZ) hr (aC (v_ 11) aN))) sc_law.nd)
   (ssK (sIf (tCm oNe (v_ 12) (eD (ak1 ZZ) hr (aC (eIx xL (v_ 3) eI) (aC (v_ 10) aN)))) (ss1 (aaH eB)) ssN)
   (ss1 (aaH (aiQ oEq (aiQ (aD2 hr.units) (eD (ab5 ZZ) hr (aC (v_ 11) aN)) (eD (ab5 ZZ) hr (aC (eIx xL (v_ 4) eI) aN))) (v_ 12))))))))))))))))),?_⟩
 refine⟨_,rfl,a,_,rfl,⟨ns,hS⟩,⟨by decide,by decide⟩,fun c0=>⟨_,_,rfl,rfl,(by show (0:Int)<2;decide),rfl,?_⟩⟩
 refine (fun bm=>?_:∀bm:Bool,ad5 1 (V.bl bm) _ _ _) _
 refine⟨fun σ' H'=>∃(pt:Addr) (x0 x1 x2 x3 x4:Nat),σ'=[some (.ref a),some (.bl bm),some (.ref pt),none,none,none,none,none,none,none,none,none,none]/\Same H H'/\H' pt=some (.lst [.int x0,.int x1,.int x2,.int x3,.int x4])/\x0<16/\x1<2/\x2<3/\x3<3/\x4<3,?_,?_⟩
 ·refine⟨_,rfl,a,_,rfl,⟨ns,hS⟩,⟨by decide,by decide⟩,fun c=>⟨_,_,rfl,rfl,⟨by decide,by decide⟩,(zL 5),fun ls hls=>⟨_,rfl,_,ls,bm,[16,2,3,3,3],rfl,SqL.of aaA,(by decide),(by decide),fun ds p H5 s5 hp hd=>?_⟩⟩⟩
  obtain⟨x0,r0,rfl,b0,hd⟩:=aaO hd
  obtain⟨x1,r1,rfl,b1,hd⟩:=aaO hd
  obtain⟨x2,r2,rfl,b2,hd⟩:=aaO hd
  obtain⟨x3,r3,rfl,b3,hd⟩:=aaO hd
  obtain⟨x4,r4,rfl,b4,hd⟩:=aaO hd
  obtain rfl:=akP hd
  obtain⟨x0,rfl⟩:=bH b0.1
  obtain⟨x1,rfl⟩:=bH b1.1
  obtain⟨x2,rfl⟩:=bH b2.1
  obtain⟨x3,rfl⟩:=bH b3.1
  obtain⟨x4,rfl⟩:=bH b4.1
  exact⟨p,x0,x1,x2,x3,x4,rfl,(aaB hls _).trans s5,hp,by omega,by omega,by omega,by omega,by omega⟩
 rintro σ' H1 ⟨pt,x0,x1,x2,x3,x4,rfl,s1,hpt,b0,b1,b2,b3,b4⟩
 refine⟨fun σ' H'=>∃(lt:Addr) (v0 v1 v2:V) (f0 f1 f2:DF),σ'=[some (.ref a),some (.bl bm),some (.ref pt),some (.ref lt),none,none,none,none,none,none,none,none,none]/\Same H1 H'/\H' lt=some (.lst [v0,v1,v2])/\TrP (fun _=>True) (⟨aD,aF,aG,aI,aE,aB,aH,aJ⟩:Cs) aA 2 H' v0 f0/\TrP (fun _=>True) (⟨aD,aF,aG,aI,aE,aB,aH,aJ⟩:Cs) aA 2 H' v1 f1/\TrP (fun _=>True) (⟨aD,aF,aG,aI,aE,aB,aH,aJ⟩:Cs) aA 2 H' v2 f2,?_,?_⟩
 ·refine⟨_,rfl,by decide,by decide,ae9 (fun D i l HZ=>∃fs,Paired (TrP (fun b=>b≠D) (⟨aD,aF,aG,aI,aE,aB,aH,aJ⟩:Cs) aA 2 HZ) l fs/\l.length=i) (fun D i l HZ l0 l' hD _ ⟨fs,hp,hl⟩=>⟨fs,Paired.mapP hp fun _ _ z=>au8 hD (fun p hp=>hp) _ z,hl⟩) (zL 3) (fun D _=>⟨[],.nil,rfl⟩) (fun i l D H5 E' F' hi ⟨fs,hP,hl⟩ hD s5 hz hE hF=>?_) (fun D H5 l ⟨fs,hP,hl⟩ hD s5 hz=>?_)⟩
  ·have hi':i<3:=hi
   have at0:∃x:Nat,x<3/\atI [V.int x0,.int x1,.int x2,.int x3,.int x4] (2+(0+(i:Int)))=some (.int x):=by
    match i,hi' with
    |0,_=>exact⟨x2,b2,rfl⟩
    |1,_=>exact⟨x3,b3,rfl⟩
    |2,_=>exact⟨x4,b4,rfl⟩
   obtain⟨x,hx,ex⟩:=at0
   have fin:∀(t:Addr) (f:DF) (H6:Hp),Same H5 H6->TrP (fun p=>H5 p=none) (⟨aD,aF,aG,aI,aE,aB,aH,aJ⟩:Cs) aA 2 H6 (.ref t) f->E' (.ref t) H6:=fun t f H6 s6 hT=>hE _ _ s6 ⟨fs++[f],abJ (Paired.mapP hP fun _ _ z=>aaU (fun _ z=>z) s6 _ z) (aaU (fun p hp e=>by rw[e,hz] at hp;cases hp) (Same.refl _) _ hT),by rw[aW,hl];rfl⟩
   have hpt5:=s5 _ _ hpt
   have e1:(1:Int)+(0+(i:Int))=((1+i:Nat):Int):=by omega
   by_cases cx:x=2
   ·refine .inr ⟨_,rfl,_,rfl,_,_,rfl,rfl,_,rfl,_,rfl,_,_,rfl,rfl,pt,_,_,_,rfl,rfl,SqL.of hpt5,ex,_,_,rfl,rfl,⟨by decide,by decide⟩,_,rfl,a,1+i,bm,ns,?_,(s1.trans s5).seq hS,(by have:3^1=3:=rfl;rw[this];omega),fun t f H6 s6 hT=>fin t f H6 s6 hT⟩
    show [V.ref a,V.int (1+(0+(i:Int))),V.int ((x:Int) / 2),V.bl bm]=_
    rw[e1,cx]
    rfl
   ·refine .inl ⟨_,rfl,_,rfl,_,_,rfl,rfl,_,rfl,_,rfl,_,_,rfl,rfl,pt,_,_,_,rfl,rfl,SqL.of hpt5,ex,_,_,rfl,rfl,⟨by decide,by decide⟩,_,rfl,a,1+i,bm,ns,?_,(s1.trans s5).seq hS,(by have:3^0=1:=rfl;rw[this];omega),fun t f H6 s6 hT=>fin t f H6 s6 (agQ 1 hT)⟩
    show [V.ref a,V.int (1+(0+(i:Int))),V.int ((x:Int) / 2),V.bl bm]=_
    rw[e1,show (x:Int) / 2=0 by omega]
    rfl
  ·obtain⟨f0,f1,f2,rfl⟩:=ay2 ((Paired.length hP).symm.trans hl)
   obtain⟨v0,v1,v2,rfl,h0,h1,h2⟩:=azU hP
   exact⟨D,v0,v1,v2,f0,f1,f2,rfl,s5,hz,aaU (fun _ _=>trivial) (Same.refl _) 2 h0,aaU (fun _ _=>trivial) (Same.refl _) 2 h1,aaU (fun _ _=>trivial) (Same.refl _) 2 h2⟩
 rintro σ' H2 ⟨lt,v0,v1,v2,f0,f1,f2,rfl,s2,hlt,t0,t1,t2⟩
 refine⟨fun σ' H'=>∃(lb:Addr) (w0 w1 w2:V),σ'=[some (.ref a),some (.bl bm),some (.ref pt),some (.ref lt),some (.ref lb),none,none,none,none,none,none,none,none]/\Same H2 H'/\H' lb=some (.lst [w0,w1,w2])/\Bq (fun p=>H' p≠none) (⟨aD,aF,aG,aI,aE,aB,aH,aJ⟩:Cs) aA aL aQ aM aO aK aP 2 4 H' w0 f0/\Bq (fun p=>H' p≠none) (⟨aD,aF,aG,aI,aE,aB,aH,aJ⟩:Cs) aA aL aQ aM aO aK aP 2 4 H' w1 f1/\Bq (fun p=>H' p≠none) (⟨aD,aF,aG,aI,aE,aB,aH,aJ⟩:Cs) aA aL aQ aM aO aK aP 2 4 H' w2 f2,?_,?_⟩
 ·have hP:Paired (TrP (fun p=>H2 p≠none) (⟨aD,aF,aG,aI,aE,aB,aH,aJ⟩:Cs) aA 2 H2) [v0,v1,v2] [f0,f1,f2]:=.cons (aaU (fun _ z=>z.2) (Same.refl _) 2 (ae5 2 t0)) (.cons (aaU (fun _ z=>z.2) (Same.refl _) 2 (ae5 2 t1)) (.cons (aaU (fun _ z=>z.2) (Same.refl _) 2 (ae5 2 t2)) .nil))
  refine⟨_,rfl,lt,rfl,⟨_,SqL.of hlt⟩,alR (xs:=[v0,v1,v2]) (fun D i l' HZ=>Paired (Bq (fun p=>H2 p≠none) (⟨aD,aF,aG,aI,aE,aB,aH,aJ⟩:Cs) aA aL aQ aM aO aK aP 2 4 HZ) l' ([f0,f1,f2].take i)) (fun D i l' HZ l0 l'' hD hN hp=>Paired.mapP hp fun _ _ z=>aoM hD (fun p hp e=>hp (e▸hN)) z) (zL 3) (fun D _=>.nil) (SqL.of hlt) (fun i v l' D H5 E' F' hv hR hD s5 hz hE hF=>?_) (fun D H5 l' hR hD s5 hz=>?_)⟩
  ·obtain⟨g,eg,hg⟩:=KM.Paired.at hP hv
   exact⟨_,rfl,_,v,g,rfl,aaU (fun _ z=>z) s5 _ hg,by decide,fun b tb db H6 s6 hB hK h4 h5=>hE _ _ s6 (by rw[bK,eg];exact abJ (Paired.mapP hR fun _ _ z=>aaM s6 z) ⟨hB,tb,db,hK,h4.2,h5⟩)⟩
  ·have hR':Paired (Bq (fun p=>H2 p≠none) (⟨aD,aF,aG,aI,aE,aB,aH,aJ⟩:Cs) aA aL aQ aM aO aK aP 2 4 H5) l' [f0,f1,f2]:=hR
   obtain⟨w0,w1,w2,rfl,h0,h1,h2⟩:=azU hR'
   exact⟨D,w0,w1,w2,rfl,s5,hz,azF h0,azF h1,azF h2⟩
 rintro σ' H3 ⟨lb,w0,w1,w2,rfl,s3,hlb,q0,q1,q2⟩
 have wt0:=acM 2 t0
 have wt1:=acM 2 t1
 have wt2:=acM 2 t2
 refine⟨fun σ' H'=>∃(lp:Addr) (ps:List Addr),σ'=[some (.ref a),some (.bl bm),some (.ref pt),some (.ref lt),some (.ref lb),some (.ref lp),none,none,none,none,none,none,none]/\Same H3 H'/\H' lp=some (.lst (ps.map V.ref))/\ps.length=16/\∀p∈ps,PrA (fun p=>H3 p≠none) (⟨aD,aF,aG,aI,aE,aB,aH,aJ⟩:Cs) aA aL aQ aM aO aK aP H' p,⟨_,rfl,lb,_,_,_,rfl,rfl,SqL.of hlb,rfl,_,rfl,lb,_,_,_,rfl,rfl,SqL.of hlb,rfl,_,rfl,lb,_,_,_,rfl,rfl,SqL.of hlb,rfl,w0,w1,w2,f0,f1,f2,rfl,⟨q0,q1,q2⟩,wt0,wt1,wt2,fun lp ps H4 s4 hlp hn hp=>⟨lp,ps,rfl,s4,hlp,hn,hp⟩⟩,?_⟩
 rintro σ' H4 ⟨lp,ps,rfl,s4,hlp,hn,hp4⟩
 have hpt4:=(s2.trans (s3.trans s4)) _ _ hpt
 refine⟨fun σ' H'=>∃(u1 u2:V) (f g:DF),σ'=[some (.ref a),some (.bl bm),some (.ref pt),some (.ref lt),some (.ref lb),some (.ref lp),some u1,some u2,none,none,none,none,none]/\H4=H'/\acN (⟨aD,aF,aG,aI,aE,aB,aH,aJ⟩:Cs) aA aL aQ aM aO aK aP 5 H4 u1 f/\acN (⟨aD,aF,aG,aI,aE,aB,aH,aJ⟩:Cs) aA aL aQ aM aO aK aP 5 H4 u2 g/\f=g/\Wt f,?_,?_⟩
 ·obtain⟨p,hp⟩:∃p,ps[x0]? =some p:=⟨_,cH (by omega)⟩
  obtain⟨u1,u2,f,g,h1,h2,h3,h4⟩:=hp4 p (bW hp)
  exact⟨_,rfl,_,rfl,pt,_,_,_,rfl,rfl,SqL.of hpt4,rfl,lp,_,_,_,rfl,rfl,SqL.of hlp,adU (by rw[bE,hp];rfl),p,_,rfl,SqT.of h1,rfl,_,_,rfl,_,_,rfl,rfl,u1,u2,f,g,rfl,rfl,adW 5 h2,adW 5 h3,h4⟩
 rintro σ' H' ⟨u1,u2,f,g,rfl,rfl,hu1,hu2,efg,wf⟩
 subst efg
 refine⟨fun σ' H'=>σ'=[some (.ref a),some (.bl bm),some (.ref pt),some (.ref lt),some (.ref lb),some (.ref lp),some u1,some u2,none,none,none,none,none]/\Same H4 H',⟨_,rfl,u1,f,rfl,hu1,fun D1 p1 H5 s5 _ hD1 l1 _ _ g1=>⟨_,rfl,u2,f,rfl,abV s5 5 hu2,fun D2 p2 H6 s6 _ hD2 l2 _ _ g2=>⟨D1,D2,shF f,shF f,rfl,rfl,alX s6 (anX hD1 l1 g1),anX hD2 l2 g2,_,rfl,ifF (by show (!decide (_=_))=false;rw[d6 rfl];rfl) ⟨rfl,s5.trans s6⟩⟩⟩⟩,?_⟩
 rintro σ' H5 ⟨rfl,s5⟩
 have s15:=s2.trans (s3.trans (s4.trans s5))
 refine⟨fun σ' H'=>∃(rx dx:Addr) (m0 m1 m3 tm:Int) (dv wv:V) (fr:DF),σ'=[some (.ref a),some (.bl bm),some (.ref pt),some (.ref lt),some (.ref lb),some (.ref lp),some u1,some u2,some (.ref rx),none,none,none,none]/\Same H5 H'/\H' rx=some (.ins aA dx (ab7 m0 m1 dv m3 wv tm))/\RwP (fun _=>True) (⟨aD,aF,aG,aI,aE,aB,aH,aJ⟩:Cs) aA H' (.ref rx) tm fr,⟨_,rfl,a,_,rfl,⟨ns,(s1.trans s15).seq hS⟩,⟨by decide,by decide⟩,fun c=>⟨_,rfl,c,bm,rfl,fun x dx m0 m1 m3 tm dv wv kd kw H6 s6 hx h3 hd hw fr=>⟨x,dx,m0,m1,m3,tm,dv,wv,acO tm m3 kd kw,rfl,s6,hx,x,dx,m0,m1,m3,dv,wv,kd,kw,rfl,hx,h3,hd,hw,fun _ _=>trivial,fun _ _=>trivial,rfl⟩⟩⟩,?_⟩
 rintro σ' H6 ⟨rx,dx,m0,m1,m3,tm,dv,wv,fr,rfl,s6,hx,hR⟩
 refine⟨fun σ' H'=>∃rt:Addr,σ'=[some (.ref a),some (.bl bm),some (.ref pt),some (.ref lt),some (.ref lb),some (.ref lp),some u1,some u2,some (.ref rx),some (.ref rt),none,none,none]/\Same H6 H'/\TrP (fun _=>True) (⟨aD,aF,aG,aI,aE,aB,aH,aJ⟩:Cs) aA 2 H' (.ref rt) fr,⟨_,rfl,_,rfl,rx,dx,_,rfl,hx,adB ..,rx,dx,m0,m1,m3,tm,dv,wv,rfl,hx,(zL 2),fun l hl=>⟨(zL 2),fun t ht=>⟨t,rfl,(aaB hl _).trans (aaB ht _),agQ 1 ⟨t,l,_,rfl,aaA,trivial,.inr (.inl ⟨rfl,.ref rx,tm,(aaB ht _) _ _ aaA,ahE ((aaB hl _).trans (aaB ht _)) hR⟩)⟩⟩⟩⟩,?_⟩
 rintro σ' H7 ⟨rt,rfl,s7,hrt⟩
 have s17:=s15.trans (s6.trans s7)
 have s27:=s3.trans (s4.trans (s5.trans (s6.trans s7)))
 have hlt7:=s27 _ _ hlt
 have hpt7:=s17 _ _ hpt
 have t07:=aaU (A':=fun _=>True) (fun _ _=>trivial) s27 2 t0
 refine⟨fun σ' H'=>∃(tt:Addr) (g:DF),σ'=[some (.ref a),some (.bl bm),some (.ref pt),some (.ref lt),some (.ref lb),some (.ref lp),some u1,some u2,some (.ref rx),some (.ref rt),some (.ref tt),none,none]/\Same H7 H'/\TrP (fun _=>True) (⟨aD,aF,aG,aI,aE,aB,aH,aJ⟩:Cs) aA 3 H' (.ref tt) g,?_,?_⟩
 ·refine⟨(zL 2),fun lw hlw=>?_⟩
  have sw:=aaB hlw (.lst [.str (Tx [108,101,115,115]),.str (Tx [106,111,105,110])])
  have hpt8:=sw _ _ hpt7
  have hlt8:=sw _ _ hlt7
  match x1,b1 with
  |0,_=>
   refine⟨_,rfl,pt,_,_,_,rfl,rfl,SqL.of hpt8,rfl,lw,_,_,_,rfl,rfl,SqL.of aaA,rfl,_,rfl,lt,_,_,_,rfl,rfl,SqL.of hlt8,rfl,_,rfl,(zL 2),fun l hl=>⟨(zL 2),fun t ht=>?_⟩⟩
   have sA:=sw.trans ((aaB hl (.lst [v0,.ref rt])).trans (aaB ht (.tup [.str (Tx [108,101,115,115]),.ref l])))
   exact⟨t,_,rfl,sA,t,l,_,rfl,aaA,trivial,.inr (.inr (.inr (.inl ⟨rfl,v0,.ref rt,f0,fr,(aaB ht _) _ _ aaA,aaU (fun _ z=>z) sA 2 t07,aaU (fun _ z=>z) sA 2 hrt,rfl⟩)))⟩
  |1,_=>
   refine⟨_,rfl,pt,_,_,_,rfl,rfl,SqL.of hpt8,rfl,lw,_,_,_,rfl,rfl,SqL.of aaA,rfl,_,rfl,lt,_,_,_,rfl,rfl,SqL.of hlt8,rfl,_,rfl,(zL 2),fun l hl=>⟨(zL 2),fun t ht=>?_⟩⟩
   have sA:=sw.trans ((aaB hl (.lst [v0,.ref rt])).trans (aaB ht (.tup [.str (Tx [106,111,105,110]),.ref l])))
   exact⟨t,_,rfl,sA,t,l,_,rfl,aaA,trivial,.inr (.inr (.inl ⟨[v0,.ref rt],[f0,fr],.inl ⟨rfl,rfl⟩,(aaB ht _) _ _ aaA,.cons (aaU (fun _ z=>z) sA 2 t07) (.cons (aaU (fun _ z=>z) sA 2 hrt) .nil),(by show 1<=2;decide),(by show 2<=3;decide)⟩))⟩
  |n+2,h=>exact absurd h (by omega)
 rintro σ' H8 ⟨tt,g,rfl,s8,ht8⟩
 have wg:=acM 3 ht8
 refine⟨fun σ' H'=>∃bk:V,σ'=[some (.ref a),some (.bl bm),some (.ref pt),some (.ref lt),some (.ref lb),some (.ref lp),some u1,some u2,some (.ref rx),some (.ref rt),some (.ref tt),some bk,none]/\Same H8 H'/\acN (⟨aD,aF,aG,aI,aE,aB,aH,aJ⟩:Cs) aA aL aQ aM aO aK aP 5 H' bk g,⟨_,rfl,_,.ref tt,g,rfl,ht8,by decide,fun b t d H9 s9 hB _ _ _=>⟨b,rfl,s9,adW 5 (arL hB (by decide))⟩⟩,?_⟩
 rintro σ' H9 ⟨bk,rfl,s9,hbk⟩
 have s39:=s4.trans (s5.trans (s6.trans (s7.trans (s8.trans s9))))
 have hlb9:=s39 _ _ hlb
 have hw9:acN (⟨aD,aF,aG,aI,aE,aB,aH,aJ⟩:Cs) aA aL aQ aM aO aK aP 5 H9 w0 f0:=adW 5 (arL (aaM s39 q0).1 (by decide))
 refine⟨fun σ' H'=>∃un:Bool,σ'=[some (.ref a),some (.bl bm),some (.ref pt),some (.ref lt),some (.ref lb),some (.ref lp),some u1,some u2,some (.ref rx),some (.ref rt),some (.ref tt),some bk,some (.bl un)]/\Same H9 H'/\un=ulB f0 g,⟨_,rfl,lb,_,_,_,rfl,rfl,SqL.of hlb9,rfl,w0,f0,rfl,hw9,fun D1 p1 HA sA _ hD1 l1 _ _ g1=>⟨_,rfl,bk,g,rfl,abV sA 5 hbk,fun D2 p2 HB sB _ hD2 l2 _ _ g2=>⟨D1,D2,shF f0,shF g,rfl,rfl,alX sB (anX hD1 l1 g1),anX hD2 l2 g2,!decide (shF f0=shF g),rfl,sA.trans sB,aCG wt0 wg⟩⟩⟩,?_⟩
 rintro σ' H10 ⟨un,rfl,s10,eun⟩
 have s2A:=s3.trans (s39.trans s10)
 refine⟨fun σ' H'=>σ'=[some (.ref a),some (.bl bm),some (.ref pt),some (.ref lt),some (.ref lb),some (.ref lp),some u1,some u2,some (.ref rx),some (.ref rt),some (.ref tt),some bk,some (.bl un)]/\Same H10 H',⟨_,rfl,_,rfl,lt,_,_,_,rfl,rfl,SqL.of (s2A _ _ hlt),rfl,_,rfl,(fun _=>True),(fun _=>True),v0,.ref tt,f0,g,rfl,agQ 2 (aaU (fun _ _=>trivial) s2A 2 t0),aaU (fun _ z=>z) (s9.trans s10) 3 ht8,fun H11 s11=>⟨rfl,_,rfl,ifF (by rw[eun,d6 rfl];rfl) ⟨rfl,s11⟩⟩⟩,?_⟩
 rintro σ' H11 ⟨rfl,s11⟩
 have s9B:=s10.trans s11
 refine⟨_,rfl,bk,g,rfl,abV s9B 5 hbk,fun D1 p1 HA sA _ hD1 l1 _ _ g1=>⟨_,rfl,lb,_,_,_,rfl,rfl,SqL.of ((s9B.trans sA) _ _ hlb9),rfl,w0,f0,rfl,abV (s9B.trans sA) 5 hw9,fun D2 p2 HB sB _ hD2 l2 _ _ g2=>⟨D1,D2,shF g,shF f0,rfl,rfl,alX sB (anX hD1 l1 g1),anX hD2 l2 g2,_,rfl,rfl,?_⟩⟩⟩
 have e:(!decide (shF g=shF f0))=un:=by rw[eun,←aCG wt0 wg,show decide (shF g=shF f0)=decide (shF f0=shF g) from decide_eq_decide.mpr eq_comm]
 show Q (.bl (decide (V.bl (!decide (shF g=shF f0))=V.bl un))) _
 rw[e,d6 rfl]
 exact q _
end
theorem all_mk{l:PySem.W.OpenLaw}{w:World}{K:FG}{h:Heap}{mg:Str->Option Value}{fa f:Addr}{aJ aD aF aG aI aE aB aH aA aL aQ aM aO aK aP aT aS aR a_MONTH_LASTS a_BOUNDS a_BOUNDS_0 a_BOUNDS_1 a_BOUNDS_3:Addr}{t_LONG_PLACE t_LONG_LAST t_SHORT_YEAR t_FIGURES t_MOST_STRIDE t_MOST_SIGNS t_MOST_ITEMS t_SATURDAY t_SUNDAY t_MOST_BACK t_MOST_DAY t_SUNDAY_TOO t_MOST_NTH t_MOST_MARKS t_ALL_WEEKDAYS t_HOUR_MINUTES t_MINUTE t_HOUR t_DAY t_MONTH t_WEEKDAY t_MOST_ROW_SIGNS t_NO_PLACE t_MOST_TALLY t_MOST_DEPTH t_MOST_BOOKS t_DAY_MINUTES t_KINDS:Tok}{oc kV dc pm cd ct:Value}{od an:Option Addr}{sl:Array (Option Value)}(X:K.In h)(G:h.Ns mainGlobals mg)(hfa:mg "law"=some (.ref fa))(ZZ:Fs K mg aJ aD aF aG aI aE aB aH aA aL aQ aM aO aK aP aT aS aR a_MONTH_LASTS a_BOUNDS a_BOUNDS_0 a_BOUNDS_1 a_BOUNDS_3 t_LONG_PLACE t_LONG_LAST t_SHORT_YEAR t_FIGURES t_MOST_STRIDE t_MOST_SIGNS t_MOST_ITEMS t_SATURDAY t_SUNDAY t_MOST_BACK t_MOST_DAY t_SUNDAY_TOO t_MOST_NTH t_MOST_MARKS t_ALL_WEEKDAYS t_HOUR_MINUTES t_MINUTE t_HOUR t_DAY t_MONTH t_WEEKDAY t_MOST_ROW_SIGNS t_NO_PLACE t_MOST_TALLY t_MOST_DEPTH t_MOST_BOOKS t_DAY_MINUTES t_KINDS)
  (a:PySem.W.nsIn K mainGlobals "law"=some (some (.ref f))) (lk:K.lookup f=some ⟨oc,od,.func (PySem.W.fnOf "law" "law" (abR aoD) (aa4 aoD) (aaC aoD) .none kV dc pm an cd ct),sl⟩) (c:PySem.W.codeIn K cd "law"=true) (k:PySem.W.keepIn K (.ref f)=true):
  ∃fd:FuncData,(∀(s:Shared) (v:Value),BindsTo s fd ⟨[v],[]⟩ [("_law_script",v)])/\∀base:Heap,K.In base->base.Ns mainGlobals mg->FnOk l.prog w K mg base CX0 46 fa fd ["_law_script"] (ap2 K):=by
 cases hfa.symm.trans (PySem.W.mg_of X G a)
 exact⟨_,fun s v=>.of_eq rfl,fun base _ _=>aEK ZZ (as5 (st:=aoD) lk c k)⟩
theorem walk{l:PySem.W.OpenLaw}{q:Program}{loose:List Str}{XP:(Str->Option Value)->Heap->Prop}{YP:World->Heap->Prop}{d:DefRec}{K:Params->FG}(hn:l.most=some 63)(hdf:d.params.defaults=[])
  (hY:∀(w:World) (h:Heap),YP w h->(K w.params).In h)
  (F:∀(w:World) (mg:Str->Option Value) (fa:Addr) (h:Heap),(K w.params).In h->h.Ns mainGlobals mg->mg d.name=some (.ref fa)->
   ∃fd:FuncData,(∀(s:Shared) (u:Value),BindsTo s fd ⟨[u],[]⟩ [("_law_script",u)])/\∀base:Heap,(K w.params).In base->base.Ns mainGlobals mg->FnOk l.prog w (K w.params) mg base CX0 46 fa fd ["_law_script"] (ap2 (K w.params))):
  PySem.W.WalkO q loose XP YP l.row.toRowW d [] (fun f vs=>PySem.call f vs):=
 L2.walk_of (n:=63) (k:=46) (x:="_law_script") (CX:=fun _=>CX0) (sp:=fun w=>ap2 (K w.params)) hn (by decide) hdf ⟨rfl,by decide,by decide⟩ hY F (fun _ _ a ns hl _ hS=>⟨a,ns,rfl,hS,hl,fun _=>rfl⟩) fun _ _ _ _ _ z=>z
end K66
open PySem PySem.W PyProof.Rows L2
set_option maxRecDepth 100000 in
set_option maxHeartbeats 0 in
theorem PySem.Challenge.cw_fivefields_k66_whole_alike_sheets_holds : PySem.Challenge.rw_fivefields_k66_whole_alike_sheets.Holds := by
 w_on;refine holds_law Hd.ws fun said=>?_;refine Hd.lst said ?hw ?hc;(case hw=>w_witness2)
 k_fill
 refine K66.walk (l:=PySem.Challenge.rw_fivefields_k66_whole_alike_sheets) rfl Hd.h4 (fun w h Y=>PySem.W.kIn_of Y) ?F
 case F=>
  intro w mg fa h KX G hmg
  rw[Hd.h5] at hmg
  refine' K66.all_mk KX G hmg ⟨
   ⟨PySem.W.mg_of KX G ?_,⟨?_,?_,?_,?_⟩,?_,?_⟩,
   ?_,
   ⟨PySem.W.mg_of KX G ?_,⟨?_,?_,?_,?_⟩,?_,?_⟩,
   ?_,
   ⟨PySem.W.mg_of KX G ?_,⟨?_,?_,?_,?_⟩,?_,?_⟩,
   ?_,
   ⟨PySem.W.mg_of KX G ?_,⟨?_,?_,?_,?_⟩,?_,?_⟩,
   ?_,
   ⟨PySem.W.mg_of KX G ?_,⟨?_,?_,?_,?_⟩,?_,?_⟩,
   ?_,
   ⟨PySem.W.mg_of KX G ?_,⟨?_,?_,?_,?_⟩,?_,?_⟩,
   ?_,
   ⟨PySem.W.mg_of KX G ?_,⟨?_,?_,?_,?_⟩,?_,?_⟩,
   ?_,
   ?_,
   ⟨PySem.W.mg_of KX G ?_,⟨?_,?_,?_,?_⟩,?_,?_⟩,
   ?_,
   ⟨PySem.W.mg_of KX G ?_,⟨?_,?_,?_,?_⟩,?_,?_⟩,
   ?_,
   ?_,
   ?_,
   ?_,
   ?_,
   ?_,
   ⟨PySem.W.mg_of KX G ?_,⟨?_,?_,?_,?_⟩,?_,?_⟩,
   ?_,
   ⟨PySem.W.mg_of KX G ?_,⟨?_,?_,?_,?_⟩,?_,?_⟩,
   ?_,
   ⟨PySem.W.mg_of KX G ?_,⟨?_,?_,?_,?_⟩,?_,?_⟩,
   ?_,
   ⟨PySem.W.mg_of KX G ?_,⟨?_,?_,?_,?_⟩,?_,?_⟩,
   ?_,
   ⟨PySem.W.mg_of KX G ?_,⟨?_,?_,?_,?_⟩,?_,?_⟩,
   ?_,
   ?_,
   ⟨PySem.W.mg_of KX G ?_,⟨?_,?_,?_,?_⟩,?_,?_⟩,
   ?_,
   PySem.W.mg_of KX G ?_,
   PySem.W.mg_of KX G ?_,
   PySem.W.mg_of KX G ?_,
   ⟨PySem.W.mg_of KX G ?_,?_,?qx_NoBook⟩,
   ⟨?_,?_,?_,?_⟩,
   ⟨?_,?_,?_,?_⟩,
   ⟨?_,?_,?_,?_⟩,
   ⟨?_,?_,?_,?_⟩,
   ⟨?_,?_,?_,?_⟩,
   ⟨?_,?_,?_,?_⟩,
   ?rkb_Book,
   ?rkb_Of,
   ?rkb_Joined,
   ?rkb_Met,
   ?rkb_Less,
   ?rkb_Turned,
   ⟨?_,?_,?_,?_⟩,
   ?rkr_Row,
   PySem.W.mg_of KX G ?_,
   K66.q_MONTH_LASTS ?_,
   PySem.W.mg_of KX G ?_,
   PySem.W.mg_of KX G ?_,
   PySem.W.mg_of KX G ?_,
   K66.mg_tx (x:="0123456789") KX G (by decide +kernel) ?_,
   PySem.W.mg_of KX G ?_,
   PySem.W.mg_of KX G ?_,
   PySem.W.mg_of KX G ?_,
   PySem.W.mg_of KX G ?_,
   PySem.W.mg_of KX G ?_,
   PySem.W.mg_of KX G ?_,
   PySem.W.mg_of KX G ?_,
   PySem.W.mg_of KX G ?_,
   PySem.W.mg_of KX G ?_,
   PySem.W.mg_of KX G ?_,
   PySem.W.mg_of KX G ?_,
   PySem.W.mg_of KX G ?_,
   PySem.W.mg_of KX G ?_,
   PySem.W.mg_of KX G ?_,
   PySem.W.mg_of KX G ?_,
   PySem.W.mg_of KX G ?_,
   PySem.W.mg_of KX G ?_,
   PySem.W.mg_of KX G ?_,
   K66.q_BOUNDS ?_,
   K66.q_BOUNDS_0 ?_,
   K66.q_BOUNDS_1 ?_,
   K66.q_BOUNDS_3 ?_,
   PySem.W.mg_of KX G ?_,
   PySem.W.mg_of KX G ?_,
   PySem.W.mg_of KX G ?_,
   PySem.W.mg_of KX G ?_,
   PySem.W.mg_of KX G ?_,
   PySem.W.mg_of KX G ?_,
   PySem.W.mg_of KX G ?_,
   PySem.W.mg_none_of KX G ?_,
   PySem.W.mg_none_of KX G ?_,
   PySem.W.mg_none_of KX G ?_,
   PySem.W.mg_none_of KX G ?_,
   PySem.W.mg_none_of KX G ?_,
   PySem.W.mg_none_of KX G ?_,
   PySem.W.mg_none_of KX G ?_,
   PySem.W.mg_none_of KX G ?_,
   PySem.W.mg_none_of KX G ?_,
   PySem.W.mg_none_of KX G ?_,
   PySem.W.mg_none_of KX G ?_,
   PySem.W.mg_none_of KX G ?_,
   PySem.W.mg_none_of KX G ?_,
   aaT KX G ?_ ?_ ?_ ?_ ?_,
   aaT KX G ?_ ?_ ?_ ?_ ?_,
   aaT KX G ?_ ?_ ?_ ?_ ?_,
   aaT KX G ?_ ?_ ?_ ?_ ?_,
   aaT KX G ?_ ?_ ?_ ?_ ?_,
   aaT KX G ?_ ?_ ?_ ?_ ?_,
   aaT KX G ?_ ?_ ?_ ?_ ?_,
   aaT KX G ?_ ?_ ?_ ?_ ?_,
   aaT KX G ?_ ?_ ?_ ?_ ?_,
   aaT KX G ?_ ?_ ?_ ?_ ?_,
   aaT KX G ?_ ?_ ?_ ?_ ?_,
   aaT KX G ?_ ?_ ?_ ?_ ?_,
   aaT KX G ?_ ?_ ?_ ?_ ?_,
   aaT KX G ?_ ?_ ?_ ?_ ?_,
   aaT KX G ?_ ?_ ?_ ?_ ?_,
   aaT KX G ?_ ?_ ?_ ?_ ?_,
   aaT KX G ?_ ?_ ?_ ?_ ?_,
   aaT KX G ?_ ?_ ?_ ?_ ?_,
   aaR ?_ ?_ ?_ ?_ ?_ ?_,
   aaR ?_ ?_ ?_ ?_ ?_ ?_,
   aaR ?_ ?_ ?_ ?_ ?_ ?_,
   K66.md_Last___init__ ?_ ?_ ?_ ?_ ?_ ?_,
   aaR ?_ ?_ ?_ ?_ ?_ ?_,
   aaR ?_ ?_ ?_ ?_ ?_ ?_,
   aaR ?_ ?_ ?_ ?_ ?_ ?_,
   aaR ?_ ?_ ?_ ?_ ?_ ?_,
   aaR ?_ ?_ ?_ ?_ ?_ ?_,
   aaR ?_ ?_ ?_ ?_ ?_ ?_,
   aaR ?_ ?_ ?_ ?_ ?_ ?_,
   aaR ?_ ?_ ?_ ?_ ?_ ?_,
   aaR ?_ ?_ ?_ ?_ ?_ ?_,
   aaR ?_ ?_ ?_ ?_ ?_ ?_,
   aaT KX G ?_ ?_ ?_ ?_ ?_,
   aaT KX G ?_ ?_ ?_ ?_ ?_,
   aaT KX G ?_ ?_ ?_ ?_ ?_,
   aaT KX G ?_ ?_ ?_ ?_ ?_,
   aaT KX G ?_ ?_ ?_ ?_ ?_,
   aaT KX G ?_ ?_ ?_ ?_ ?_,
   aaT KX G ?_ ?_ ?_ ?_ ?_,
   aaT KX G ?_ ?_ ?_ ?_ ?_,
   aaT KX G ?_ ?_ ?_ ?_ ?_,
   aaR ?_ ?_ ?_ ?_ ?_ ?_,
   aaR ?_ ?_ ?_ ?_ ?_ ?_,
   aaT KX G ?_ ?_ ?_ ?_ ?_,
   aaT KX G ?_ ?_ ?_ ?_ ?_,
   aaT KX G ?_ ?_ ?_ ?_ ?_,
   aaR ?_ ?_ ?_ ?_ ?_ ?_,
   aaR ?_ ?_ ?_ ?_ ?_ ?_,
   aaR ?_ ?_ ?_ ?_ ?_ ?_,
   aaR ?_ ?_ ?_ ?_ ?_ ?_,
   aaR ?_ ?_ ?_ ?_ ?_ ?_,
   aaR ?_ ?_ ?_ ?_ ?_ ?_,
   aaR ?_ ?_ ?_ ?_ ?_ ?_,
   aaR ?_ ?_ ?_ ?_ ?_ ?_,
   aaR ?_ ?_ ?_ ?_ ?_ ?_,
   aaR ?_ ?_ ?_ ?_ ?_ ?_,
   aaR ?_ ?_ ?_ ?_ ?_ ?_,
   aaR ?_ ?_ ?_ ?_ ?_ ?_,
   aaT KX G ?_ ?_ ?_ ?_ ?_,
   aaT KX G ?_ ?_ ?_ ?_ ?_,
   aaT KX G ?_ ?_ ?_ ?_ ?_,
   aaT KX G ?_ ?_ ?_ ?_ ?_,
   aaR ?_ ?_ ?_ ?_ ?_ ?_,
   aaR ?_ ?_ ?_ ?_ ?_ ?_,
   aaR ?_ ?_ ?_ ?_ ?_ ?_,
   aaR ?_ ?_ ?_ ?_ ?_ ?_,
   aaR ?_ ?_ ?_ ?_ ?_ ?_,
   aaR ?_ ?_ ?_ ?_ ?_ ?_,
   aaR ?_ ?_ ?_ ?_ ?_ ?_,
   aaT KX G ?_ ?_ ?_ ?_ ?_,
   aaT KX G ?_ ?_ ?_ ?_ ?_,
   aaR ?_ ?_ ?_ ?_ ?_ ?_,
   aaR ?_ ?_ ?_ ?_ ?_ ?_,
   aaR ?_ ?_ ?_ ?_ ?_ ?_,
   aaR ?_ ?_ ?_ ?_ ?_ ?_,
   aaR ?_ ?_ ?_ ?_ ?_ ?_,
   aaR ?_ ?_ ?_ ?_ ?_ ?_,
   aaT KX G ?_ ?_ ?_ ?_ ?_,
   aaT KX G ?_ ?_ ?_ ?_ ?_,
   aaT KX G ?_ ?_ ?_ ?_ ?_,
   aaT KX G ?_ ?_ ?_ ?_ ?_,
   aaT KX G ?_ ?_ ?_ ?_ ?_,
   aaT KX G ?_ ?_ ?_ ?_ ?_,
   aaT KX G ?_ ?_ ?_ ?_ ?_,
   aaT KX G ?_ ?_ ?_ ?_ ?_,
   aaT KX G ?_ ?_ ?_ ?_ ?_,
   aaT KX G ?_ ?_ ?_ ?_ ?_,
   aaT KX G ?_ ?_ ?_ ?_ ?_,
   aaT KX G ?_ ?_ ?_ ?_ ?_,
   aaT KX G ?_ ?_ ?_ ?_ ?_,
   aaT KX G ?_ ?_ ?_ ?_ ?_,
   aaT KX G ?_ ?_ ?_ ?_ ?_⟩ ?_ ?_ ?_ ?_
  (case qx_NoBook=>kernel_rfl)
  (case rkb_Book=>kernel_rfl)
  (case rkb_Of=>kernel_rfl)
  (case rkb_Joined=>kernel_rfl)
  (case rkb_Met=>kernel_rfl)
  (case rkb_Less=>kernel_rfl)
  (case rkb_Turned=>kernel_rfl)
  (case rkr_Row=>kernel_rfl)
  all_goals try (intro _ _ _ _ _ _ us hl;first | (obtain⟨rfl⟩:=len0 hl;rfl) | (obtain⟨_,rfl⟩:=aF5 hl;rfl) | (obtain⟨_,_,rfl⟩:=aGZ hl;rfl) | (obtain⟨_,_,_,rfl⟩:=aN2 hl;rfl) | (obtain⟨_,_,_,_,rfl⟩:=len4 hl;rfl))
  all_goals try (as_aux_lemma=>k_is)
