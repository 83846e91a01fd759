import PyProof.Rows.All
import Wide.All
import OpenK.AllK
import Wide.FinOn
import Lean
import PyProof.EqAt
import PyProof.EqKinds
import PyProof.TupleCall
import PySem.Challenge.RW_fivefields_k45_rows_shown
set_option maxHeartbeats 4000000
set_option compiler.extract_closed false
namespace Hd
open PySem PySem.W PySem.Calls PyProof.Rows
section
set_option maxHeartbeats 0
set_option maxRecDepth 100000
set_option linter.all false
theorem ws:OpenLaw.wellSaid PySem.Challenge.rw_fivefields_k45_rows_shown=true:=by
 delta OpenLaw.wellSaid
 with_reducible refine look_both (look_both (look_both (look_both (look_both (look_both (look_both (look_both (look_both (look_both (look_both (look_both (look_both (look_both (look_both (look_both (look_both (look_both ?_ ?_) ?_) ?_) ?_) ?_) ?_) ?_) ?_) ?_) ?_) ?_) ?_) ?_) ?_) ?_) ?_) ?_) ?_
 ·delta OpenRow.wellSaid
  with_reducible refine look_both (look_both ?_ ?_) ?_
  ·delta OpenRow.partSaid
   with_reducible refine look_both (look_both (look_both (look_both (look_both (look_both (look_both (look_both (look_both (look_both (look_both (look_both ?_ ?_) ?_) ?_) ?_) ?_) ?_) ?_) ?_) ?_) ?_) ?_) ?_
   ·delta looksOpen
    with_reducible refine look_both (look_both (look_both (look_both (look_both ?_ ?_) ?_) ?_) ?_) ?_
    all_goals decide +kernel
   all_goals decide +kernel
  all_goals decide +kernel
 all_goals decide +kernel
noncomputable section
noncomputable abbrev pw:Program:=PySem.Challenge.pw_fivefields_k45_rows_shown
noncomputable abbrev bi:List Stmt:=behindTheImports pw
noncomputable def nth:List Stmt->Nat->Stmt
 |s::_,0=>s
 |_::r,n+1=>nth r n
 |[],_=>.Pass default
noncomputable def tp(i:Nat):Stmt:=nth pw.main.body i
noncomputable def bd:Stmt->List Stmt
 |.FunctionDef _ _ b _ _ _ _ _ _ _=>b
 |.ClassDef _ _ _ b _ _ _ _ _ _ _=>b
 |_=>[]
noncomputable def ag:Stmt->Arguments
 |.FunctionDef _ a _ _ _ _ _ _ _ _=>a
 |_=>⟨[],[],none,[],[],none,[]⟩
noncomputable def sc:Stmt->Scope
 |.FunctionDef _ _ _ _ _ _ s _ _ _=>s
 |.ClassDef _ _ _ _ _ _ s _ _ _ _=>s
 |_=>pw.main.scope
noncomputable def r(a:Addr):Value:=.ref a
noncomputable def i(n:Int):Value:=.int n 0
noncomputable def de(P:Params)(k:Str)(t:Tok)(v:Value):DictEntry:=⟨PyData.keyHash P k,.str k t,v⟩
noncomputable def tu(l:List Value):Obj:=⟨.type "tuple",none,.seq l.toArray 0,#[]⟩
noncomputable def di(l:List DictEntry)(n:Nat):Obj:=⟨.type "dict",none,.dict l.toArray n,#[]⟩
noncomputable def co(l:List Value):Obj:=⟨.type "code",none,.fields l.toArray,#[]⟩
noncomputable def fd(l:List Value):Obj:=⟨.none,none,.fields l.toArray,#[]⟩
noncomputable def lf(x:Obj):BT:=.node x .nil .nil
noncomputable abbrev nd:Obj->BT->BT->BT:=BT.node
noncomputable def sf(t:Tok):Value:=.str "/claim/cut.py" t
noncomputable def fz(n q:Str)(s:Stmt):Obj:=⟨.none,none,.func ⟨n,q,ag s,.stmts (bd s),sc s,0,[],.none,.none,.none,.none,none,.none,.none,0⟩,#[]⟩
noncomputable def fn(n q:Str)(s:Stmt)(g:Addr)(c:List (Str×Addr))(d k o m:Value)(a:Option Addr)(x y:Value)(b:Addr):Obj:=⟨.type "function",none,.func ⟨n,q,ag s,.stmts (bd s),sc s,g,c,d,k,o,m,a,x,y,b⟩,#[]⟩
noncomputable def ib(s:Stmt)(i:Nat):Stmt:=nth (bd s) i
noncomputable def ev:Env:={scope:=pw.main.scope,locals:=mainNs,globals:=mainNs,cells:=[],code:=(r 13),frame:=some 14}
noncomputable def cd:Code:=.body bi ev
noncomputable abbrev an:Option Value:=(some (r 6))
noncomputable abbrev bk:List Frame:=[topFrame ⟨0,0,0,0⟩]
def cO(n q:Str)(t l c x a u:Nat):Obj:=co [.str n t,.str q (t+1),sf (t+2),i (Int.ofNat l),i (Int.ofNat c),i 0,i 0,i (Int.ofNat x),r a,.bool true,i 181,r (a+1),.none,r (a+2),r (a+3),r (a+4),i (Int.ofNat u),i (Int.ofNat l),sf (u+1)]
def cP(n:Str)(t l c x a u:Nat):Obj:=cO n n t l c x a u
def cK(n q:Str)(t l a u:Nat):Obj:=co [.str n t,.str q (t+1),sf (t+2),i (Int.ofNat l),i 0,i 0,i 0,i 0,r a,.bool false,i 181,r (a+1),.none,.none,.none,.none,i (Int.ofNat u),i (Int.ofNat l),sf (u+1)]
def fQ(n q:Str)(s:Stmt)(m:Value)(a:Addr):Obj:=fn n q s 3 [] .none .none .none m none (r a) .none 0
def fP(n:Str)(k:Nat)(m:Value)(a:Addr):Obj:=fQ n n (tp k) m a
def fY(n:Str)(k:Nat):Obj:=fz n n (tp k)
def fS(n q:Str)(s z:Stmt)(m:Value)(a:Addr):Obj:=⟨(.type "function"),none,(.func ⟨n,q,ag s,.stmts (bd s),sc z,3,[],.none,.none,.none,m,none,r a,.none,0⟩),#[]⟩
def fT(n q:Str)(s z:Stmt):Obj:=⟨.none,none,(.func ⟨n,q,ag s,.stmts (bd s),sc z,0,[],.none,.none,.none,.none,none,.none,.none,0⟩),#[]⟩
def ss:List Str->Nat->List Value
 |[],_=>[]
 |x::l,n=>.str x n::ss l (n+1)
def tS(n:Nat)(l:List Str):Obj:=tu (ss l n)
def dr(P:Params)(k:Str)(t:Tok)(a:Addr):DictEntry:=de P k t (r a)
def f3(k:Nat):List (Nat×Nat)->List Value
 |[]=>[]
 |(a,b)::l=>i (Int.ofNat a)::i (Int.ofNat k)::r b::f3 k l
def fD(k:Nat)(l:List (Nat×Nat)):Obj:=fd (f3 k l)
def fr(a b:Addr)(m:Value):Obj:=⟨(.type "frame"),none,.plain,#[some (r a),some (r 3),some (r b),none,some m,none,some (r 0)]⟩
def bm(s:String)(v:Value):Obj:=⟨(.type "builtin_function_or_method"),none,(.fields #[.builtin s,v]),#[]⟩
def sp2(l:List Obj):List Obj×List Obj:=List.rec ([],[]) (fun x _ p=>(x::p.2,p.1)) l
def brn:Nat->List Obj->BT
 |0,_=>.nil
 |_+1,[]=>.nil
 |n+1,x::l=>.node x (brn n (sp2 l).1) (brn n (sp2 l).2)
def su(a b c:Addr):Obj:=⟨(.type "super"),none,(.fields #[r a,r b,r c]),#[]⟩
def mv0:Value:=.str "fivefields.rows" 1034
def mv1:Value:=.str "fivefields.errors" 194
def mv2:Value:=.str "fivefields.days" 289
def mv3:Value:=.str "fivefields.ranges" 396
def mv4:Value:=.str "fivefields.fields" 441
def mv5:Value:=.str "fivefields.marks" 536
def mv6:Value:=.str "fivefields.months" 999
def mv7:Value:=.str "law_fivefields_k45_rows_shown" 1221
def o0:=tu []
def o1:=fd []
def o2:=cK "<module>" "<module>" 182 1 11 185
def o3:Obj:=⟨(.type "frame"),none,.plain,#[(some (r 13)),(some (r 3)),(some (r 3)),none,(some (.str "__main__" 164)),none,(some (r 0))]⟩
def hA(P:Params):Heap:=⟨⟨[(boot_o_0 P),(boot_o_1 P),(boot_o_2 P),(boot_o_3 P),(boot_o_4 P),(boot_o_5 P),(boot_o_6 P),(boot_o_7 P),(boot_o_8 P),(boot_o_9 P),(boot_o_10 P),o0,o1,o2,o3]⟩,⟨[],[],[],0,[],[],false,#[],[],0,false,false,false,0,[2000,10,10],false,0,true,[],[],0,false⟩⟩
def sA(w:World)(os:OsState):Shared:=⟨hA w.params,#[],⟨0,0,0,0⟩,187,os⟩
theorem pre(w:World)(os:OsState):
  topGo treeTable pw w 11 an 12 ⟨boot_heap w.params,⟨[]⟩,boot_drawn,boot_toks,os⟩ (topStub pw) =
  some (sA w os,⟨denote treeTable cd,cd,⟨0,0,0,0⟩,bk⟩):=by kernel_rfl
def t0(P:Params):BT:=brn 5 [(boot_o_0 P),(boot_o_1 P),(boot_o_2 P),(boot_o_3 P),(boot_o_4 P),(boot_o_5 P),(boot_o_6 P),(boot_o_7 P),(boot_o_8 P),(boot_o_9 P),(boot_o_10 P),o0,o1,o2,o3]
def s0(w:World)(os:OsState):SharedT:=⟨t0 w.params,15,⟨[],[],[],0,[],[],false,#[],[],0,false,false,false,0,[2000,10,10],false,0,true,[],[],0,false⟩,#[],⟨0,0,0,0⟩,187,os⟩
theorem blk(w:World)(os:OsState):
  segRun treeTable pw w 11 an 1 1 (sA w os) (blockOf bi ev cd ⟨0,0,0,0⟩ bk) =
  some (.next,(s0 w os).abs,cd,⟨0,0,0,0⟩):=by kernel_rfl
def o4(P:Params):=di [de P "__name__" 165 mv0,de P "__doc__" 166 .none,de P "__package__" 167 .none,de P "__loader__" 168 (.builtin "__main__.__loader__#opaque"),de P "__spec__" 169 .none,dr P "__annotations__" 170 6,dr P "__builtins__" 171 4,de P "__file__" 173 (sf 172),de P "__cached__" 174 .none,dr P "_wall" 193 21,dr P "FieldError" 213 31,dr P "NoDay" 229 44,dr P "NoField" 254 63,dr P "NoRow" 279 82,dr P "is_whole" 288 91,dr P "MONTH_LASTS" 303 92,de P "ROUND_YEARS" 305 (.int 400 304),de P "ROUND_DAYS" 307 (.int 146097 306),dr P "is_long" 314 99,dr P "multiples_before" 322 106,dr P "days_before" 330 113,dr P "last_of" 338 120,dr P "is_date" 347 127,dr P "day_of" 353 132,dr P "year_of" 361 139,dr P "date_of" 371 146,dr P "weekday" 378 153,de P "FIGURES" 382 (.str "0123456789" 381),dr P "all_figures" 388 158,dr P "is_written" 395 165,dr P "has" 405 172,dr P "starts_of" 411 177,dr P "end_from" 420 184,dr P "ranges_of" 426 189,dr P "shown_range" 434 196,dr P "shown_ranges" 440 201,de P "MOST_SIGNS" 444 (.int 300 443),de P "MOST_ITEMS" 446 (.int 40 445),de P "MOST_STRIDE" 448 (.int 99 447),dr P "mask_of" 457 208,dr P "numbers_in" 463 213,dr P "run_mask" 472 220,dr P "read_number" 482 227,dr P "read_run" 488 232,dr P "read_strided" 501 239,dr P "read_item" 512 246,dr P "read_field" 526 253,dr P "shown_field" 535 260,de P "MOST_MARKS" 539 (.int 20 538),de P "MOST_DAY" 541 (.int 31 540),de P "MOST_BACK" 543 (.int 30 542),de P "MOST_NTH" 545 (.int 5 544),de P "SUNDAY" 547 (.int 0 546),de P "SATURDAY" 549 (.int 6 548),de P "SUNDAY_TOO" 551 (.int 7 550),de P "ALL_WEEKDAYS" 553 (.int 127 552),dr P "weekday_at" 561 267,dr P "all_days" 568 274,dr P "nearest_work" 578 281,dr P "first_one" 586 288,dr P "Mark" 622 312,dr P "Numbers" 663 347,dr P "Last" 705 381,dr P "Near" 746 414,dr P "LastWork" 778 440,dr P "Weekdays" 821 473,dr P "Nth" 865 506,dr P "LastOne" 906 539,dr P "any_days" 917 548,dr P "read_day_mark" 926 555,dr P "read_weekday" 934 562,dr P "read_weekday_mark" 944 569,dr P "read_items" 961 576,dr P "read_days" 969 583,dr P "read_weekdays" 978 590,dr P "shown_marks" 984 595,de P "DAY_MINUTES" 988 (.int 1440 987),de P "HOUR_MINUTES" 990 (.int 60 989),dr P "parted" 998 602,de P "LONG_PLACE" 1002 (.int 12 1001),de P "LONG_LAST" 1004 (.int 29 1003),de P "SHORT_YEAR" 1006 (.int 1 1005),dr P "kind_from" 1016 609,dr P "kind_of" 1024 616,dr P "month_at" 1033 623,de P "MOST_ROW_SIGNS" 1037 (.int 1600 1036),de P "MINUTE" 1039 (.int 0 1038),de P "HOUR" 1041 (.int 1 1040),de P "DAY" 1043 (.int 2 1042),de P "MONTH" 1045 (.int 3 1044),de P "WEEKDAY" 1047 (.int 4 1046),de P "NO_PLACE" 1049 (.int 5 1048)] 92
def o5:=fD 0 [(1,20),(5,27),(7,40),(9,52),(13,71),(18,90),(24,98),(26,105),(28,112),(31,119),(35,126),(39,131),(44,138),(49,145),(57,152),(61,157),(63,164),(66,171),(68,176),(71,183),(76,188),(78,195),(82,200),(88,207),(93,212),(95,219),(97,226),(104,231),(111,238),(118,245),(126,252),(139,259),(152,266),(154,273),(156,280),(163,287),(165,294),(172,322),(182,355),(196,389),(208,422),(215,448),(228,481),(242,514),(252,547),(257,554),(269,561),(272,568),(284,575),(302,582),(309,589),(317,594),(324,601),(331,608),(334,615),(336,622)]
def o6:=tS 190 ["k"]
def o7:=fY "_wall" 0
def o8:=cP "_wall" 187 1 1 3 15 191
def o9:=fn "_wall" "_wall" (tp 0) 3 [] .none .none .none (.str "__main__" 164) none (r 20) .none 0
def o10:=tu [(.type "ValueError")]
def o11:=bm "type.__prepare__" (.type "type")
def o12(P:Params):=di [de P "__module__" 203 mv1,de P "__qualname__" 205 (.str "FieldError" 204),de P "__firstlineno__" 207 (.int 5 206),dr P "__static_attributes__" 208 29] 4
def o13:=cK "FieldError" "FieldError" 198 5 25 201
def o14:=fr 27 24 mv1
def o15(P:Params):=di [de P "__module__" 203 mv1,de P "__firstlineno__" 207 (.int 5 206),dr P "__static_attributes__" 208 29,dr P "__weakref__" 210 32,de P "__doc__" 211 .none] 3
def o16:Obj:=⟨(.type "type"),none,(.cls ⟨"FieldError",[(.type "ValueError")],[(r 31),(.type "ValueError"),(.type "Exception"),(.type "BaseException"),(.type "object")],30,"FieldError",true,[],[(r 44),(r 63),(r 82)],false,none,false⟩),#[(some (r 22)),none,(some (.str "FieldError" 196)),(some (.str "FieldError" 204)),(some (.builtin "ValueError.__new__")),(some (.bool true))]⟩
def o17:Obj:=⟨(.type "getset_descriptor"),none,(.fields #[(.str "__weakref__" 209),(r 31),(.builtin "ExceptionGroup.__weakref__"),.none]),#[]⟩
def o18:=su 31 31 31
def o19:=bm "object.__init_subclass__" (r 31)
def o20:=tu [(r 31)]
def o21(P:Params):=di [de P "__module__" 221 mv1,de P "__qualname__" 223 (.str "NoDay" 222),de P "__firstlineno__" 225 (.int 7 224),dr P "__static_attributes__" 226 42] 4
def o22:=cK "NoDay" "NoDay" 216 7 38 219
def o23:=fr 40 37 mv1
def o24(P:Params):=di [de P "__module__" 221 mv1,de P "__firstlineno__" 225 (.int 7 224),dr P "__static_attributes__" 226 42,de P "__doc__" 227 .none] 2
def o25:Obj:=⟨(.type "type"),none,(.cls ⟨"NoDay",[(r 31)],[(r 44),(r 31),(.type "ValueError"),(.type "Exception"),(.type "BaseException"),(.type "object")],43,"NoDay",true,[],[],false,none,false⟩),#[(some (r 35)),none,(some (.str "NoDay" 214)),(some (.str "NoDay" 222)),(some (.builtin "ValueError.__new__")),(some (.bool true))]⟩
def o26:=su 44 44 44
def o27:=bm "object.__init_subclass__" (r 44)
def o28(P:Params):=di [de P "__module__" 237 mv1,de P "__qualname__" 239 (.str "NoField" 238),de P "__firstlineno__" 241 (.int 9 240),dr P "__init__" 249 60,dr P "__static_attributes__" 251 61] 5
def o29:=fD 4 [(11,59)]
def o30:=cK "NoField" "NoField" 232 9 50 235
def o31:=fr 52 49 mv1
def o32:=tS 245 ["self","at"]
def o33:=fz "__init__" "NoField.__init__" (ib (tp 4) 0)
def o34:=cO "__init__" "NoField.__init__" 242 11 2 3 54 247
def o35:=fQ "__init__" "NoField.__init__" (ib (tp 4) 0) mv1 59
def o36:=tS 250 ["at"]
def o37(P:Params):=di [de P "__module__" 237 mv1,de P "__firstlineno__" 241 (.int 9 240),dr P "__init__" 249 60,dr P "__static_attributes__" 251 61,de P "__doc__" 252 .none] 2
def o38:Obj:=⟨(.type "type"),none,(.cls ⟨"NoField",[(r 31)],[(r 63),(r 31),(.type "ValueError"),(.type "Exception"),(.type "BaseException"),(.type "object")],62,"NoField",true,[],[],false,none,false⟩),#[(some (r 47)),none,(some (.str "NoField" 230)),(some (.str "NoField" 238)),(some (.builtin "ValueError.__new__")),(some (.bool true))]⟩
def o39:=su 63 63 63
def o40:=bm "object.__init_subclass__" (r 63)
def o41(P:Params):=di [de P "__module__" 262 mv1,de P "__qualname__" 264 (.str "NoRow" 263),de P "__firstlineno__" 266 (.int 13 265),dr P "__init__" 274 79,dr P "__static_attributes__" 276 80] 5
def o42:=fD 4 [(15,78)]
def o43:=cK "NoRow" "NoRow" 257 13 69 260
def o44:=fr 71 68 mv1
def o45:=tS 270 ["self","place"]
def o46:=fz "__init__" "NoRow.__init__" (ib (tp 5) 0)
def o47:=cO "__init__" "NoRow.__init__" 267 15 2 3 73 272
def o48:=fQ "__init__" "NoRow.__init__" (ib (tp 5) 0) mv1 78
def o49:=tS 275 ["place"]
def o50(P:Params):=di [de P "__module__" 262 mv1,de P "__firstlineno__" 266 (.int 13 265),dr P "__init__" 274 79,dr P "__static_attributes__" 276 80,de P "__doc__" 277 .none] 2
def o51:Obj:=⟨(.type "type"),none,(.cls ⟨"NoRow",[(r 31)],[(r 82),(r 31),(.type "ValueError"),(.type "Exception"),(.type "BaseException"),(.type "object")],81,"NoRow",true,[],[],false,none,false⟩),#[(some (r 66)),none,(some (.str "NoRow" 255)),(some (.str "NoRow" 263)),(some (.builtin "ValueError.__new__")),(some (.bool true))]⟩
def o52:=su 82 82 82
def o53:=bm "object.__init_subclass__" (r 82)
def o54:=tS 285 ["thing"]
def o55:=fY "is_whole" 7
def o56:=cP "is_whole" 282 18 1 3 85 286
def o57:=fn "is_whole" "is_whole" (tp 7) 3 [] .none .none .none (.str "fivefields.wholes" 280) none (r 90) .none 0
def o58:=tu [(.int 31 291),(.int 28 292),(.int 31 293),(.int 30 294),(.int 31 295),(.int 30 296),(.int 31 297),(.int 31 298),(.int 30 299),(.int 31 300),(.int 30 301),(.int 31 302)]
def o59:=tS 311 ["year"]
def o60:=fY "is_long" 12
def o61:=cP "is_long" 308 24 1 3 93 312
def o62:=fP "is_long" 12 mv2 98
def o63:=tS 318 ["year","step"]
def o64:=fY "multiples_before" 13
def o65:=cP "multiples_before" 315 26 2 3 100 320
def o66:=fP "multiples_before" 13 mv2 105
def o67:=tS 326 ["year","longs"]
def o68:=fY "days_before" 14
def o69:=cP "days_before" 323 28 1 3 107 328
def o70:=fP "days_before" 14 mv2 112
def o71:=tS 334 ["year","month"]
def o72:=fY "last_of" 15
def o73:=cP "last_of" 331 31 2 3 114 336
def o74:=fP "last_of" 15 mv2 119
def o75:=tS 342 ["year","month","day"]
def o76:=fY "is_date" 16
def o77:=cP "is_date" 339 35 3 3 121 345
def o78:=fP "is_date" 16 mv2 126
def o79:=fY "day_of" 17
def o80:=co [(.str "day_of" 348),(.str "day_of" 349),(sf 350),(i 39),(i 3),(i 0),(i 0),(i 3),(r 128),(.bool true),(i 181),(r 129),.none,.none,.none,(r 130),(i 351),(i 39),(sf 352)]
def o81:=fP "day_of" 17 mv2 131
def o82:=tS 357 ["day","year"]
def o83:=fY "year_of" 18
def o84:=cP "year_of" 354 44 1 3 133 359
def o85:=fP "year_of" 18 mv2 138
def o86:=tS 365 ["day","year","month","rest"]
def o87:=fY "date_of" 19
def o88:=cP "date_of" 362 49 1 3 140 369
def o89:=fP "date_of" 19 mv2 145
def o90:=tS 375 ["day"]
def o91:=fY "weekday" 20
def o92:=cP "weekday" 372 57 1 3 147 376
def o93:=fP "weekday" 20 mv2 152
def o94:=fY "all_figures" 23
def o95:=co [(.str "all_figures" 383),(.str "all_figures" 384),(sf 385),(i 61),(i 1),(i 0),(i 0),(i 3),(r 154),(.bool true),(i 181),(r 155),.none,.none,.none,(r 156),(i 386),(i 61),(sf 387)]
def o96:=fn "all_figures" "all_figures" (tp 23) 3 [] .none .none .none (.str "fivefields.figures" 379) none (r 157) .none 0
def o97:=tS 392 ["text"]
def o98:=fY "is_written" 24
def o99:=cP "is_written" 389 63 1 3 159 393
def aMG:=fn "is_written" "is_written" (tp 24) 3 [] .none .none .none (.str "fivefields.figures" 379) none (r 164) .none 0
def aOJ:=tS 401 ["mask","number"]
def aHO:=fY "has" 26
def aGM:=cP "has" 398 66 2 3 166 403
def aG1:=fP "has" 26 mv3 171
def aJB:=fY "starts_of" 27
def aOI:=co [(.str "starts_of" 406),(.str "starts_of" 407),(sf 408),(i 68),(i 1),(i 0),(i 0),(i 3),(r 173),(.bool true),(i 181),(r 174),.none,.none,.none,(r 175),(i 409),(i 68),(sf 410)]
def aH5:=fP "starts_of" 27 mv3 176
def aNJ:=tS 415 ["mask","start","end"]
def aKL:=fY "end_from" 28
def aJX:=cP "end_from" 412 71 2 3 178 418
def aPD:=fP "end_from" 28 mv3 183
def aIC:=fY "ranges_of" 29
def aGJ:=co [(.str "ranges_of" 421),(.str "ranges_of" 422),(sf 423),(i 76),(i 1),(i 0),(i 0),(i 3),(r 185),(.bool true),(i 181),(r 186),.none,.none,.none,(r 187),(i 424),(i 76),(sf 425)]
def aN6:=fP "ranges_of" 29 mv3 188
def aGY:=tS 430 ["first","last"]
def aIW:=fY "shown_range" 30
def aKG:=cP "shown_range" 427 78 2 3 190 432
def aHE:=fP "shown_range" 30 mv3 195
def aLA:=fY "shown_ranges" 31
def aJ7:=co [(.str "shown_ranges" 435),(.str "shown_ranges" 436),(sf 437),(i 82),(i 1),(i 0),(i 0),(i 3),(r 197),(.bool true),(i 181),(r 198),.none,.none,.none,(r 199),(i 438),(i 82),(sf 439)]
def aOX:=fP "shown_ranges" 31 mv3 200
def aI9:=tS 452 ["numbers","mask","number"]
def aJK:=fY "mask_of" 36
def aHU:=cP "mask_of" 449 88 1 3 202 455
def aN7:=fP "mask_of" 36 mv4 207
def aOY:=fY "numbers_in" 37
def aF8:=co [(.str "numbers_in" 458),(.str "numbers_in" 459),(sf 460),(i 93),(i 1),(i 0),(i 0),(i 3),(r 209),(.bool true),(i 181),(r 210),.none,.none,.none,(r 211),(i 461),(i 93),(sf 462)]
def aM9:=fP "numbers_in" 37 mv4 212
def aGP:=tS 467 ["first","last","stride"]
def aPM:=fY "run_mask" 38
def aOO:=cP "run_mask" 464 95 3 3 214 470
def aJC:=fP "run_mask" 38 mv4 219
def aK6:=tS 476 ["text","low","high","number"]
def aM4:=fY "read_number" 39
def aKU:=cP "read_number" 473 97 3 3 221 480
def aNK:=fP "read_number" 39 mv4 226
def aKM:=fY "read_run" 40
def aJV:=co [(.str "read_run" 483),(.str "read_run" 484),(sf 485),(i 104),(i 3),(i 0),(i 0),(i 3),(r 228),(.bool true),(i 181),(r 229),.none,.none,.none,(r 230),(i 486),(i 104),(sf 487)]
def aMK:=fP "read_run" 40 mv4 231
def aO6:=tS 492 ["run_text","stride_text","low","high","run","stride","last"]
def aON:=fY "read_strided" 41
def aHN:=cP "read_strided" 489 111 4 3 233 499
def aG7:=fP "read_strided" 41 mv4 238
def aHB:=tS 505 ["item","low","high","parts","run"]
def aPE:=fY "read_item" 42
def aI6:=cP "read_item" 502 118 3 3 240 510
def aOU:=fP "read_item" 42 mv4 245
def aML:=tS 516 ["text","low","high","items","mask","place","item","told"]
def aGI:=fY "read_field" 43
def aHA:=cP "read_field" 513 126 3 3 247 524
def aLX:=fP "read_field" 43 mv4 252
def aKZ:=tS 530 ["mask","low","high"]
def aNE:=fY "shown_field" 44
def aNL:=cP "shown_field" 527 139 3 3 254 533
def aGZ:=fP "shown_field" 44 mv4 259
def aMD:=tS 557 ["day","first"]
def aG0:=fY "weekday_at" 54
def aO0:=cP "weekday_at" 554 152 2 3 261 559
def aMO:=fP "weekday_at" 54 mv5 266
def aJA:=tS 565 ["last"]
def aH9:=fY "all_days" 55
def aPY:=cP "all_days" 562 154 1 3 268 566
def aJ6:=fP "all_days" 55 mv5 273
def aHY:=tS 572 ["day","last","first","of_week"]
def aGS:=fY "nearest_work" 56
def aIB:=cP "nearest_work" 569 156 3 3 275 576
def aKX:=fP "nearest_work" 56 mv5 280
def aID:=tS 582 ["weekday","first"]
def aJ2:=fY "first_one" 57
def aKD:=cP "first_one" 579 163 2 3 282 584
def aNN:=fP "first_one" 57 mv5 287
def aGW(P:Params):=di [de P "__module__" 594 mv5,de P "__qualname__" 596 (.str "Mark" 595),de P "__firstlineno__" 598 (.int 165 597),dr P "days" 607 302,dr P "told" 614 309,dr P "__static_attributes__" 615 310] 6
def aF7:=fD 4 [(167,301),(170,308)]
def aJT:=cK "Mark" "Mark" 589 165 292 592
def aK5:=fr 294 291 mv5
def aMY:=tS 602 ["self","last","first"]
def aK2:=fz "days" "Mark.days" (ib (tp 58) 0)
def aL0:=cO "days" "Mark.days" 599 167 3 3 296 605
def aG9:=fQ "days" "Mark.days" (ib (tp 58) 0) mv5 301
def aLD:=tS 611 ["self"]
def aJ4:=fz "told" "Mark.told" (ib (tp 58) 1)
def aNR:=cO "told" "Mark.told" 608 170 1 3 303 612
def aL4:=fQ "told" "Mark.told" (ib (tp 58) 1) mv5 308
def aLZ(P:Params):=di [de P "__module__" 594 mv5,de P "__firstlineno__" 598 (.int 165 597),dr P "days" 607 302,dr P "told" 614 309,dr P "__static_attributes__" 615 310,dr P "__dict__" 617 313,dr P "__weakref__" 619 314,de P "__doc__" 620 .none] 4
def aNU:Obj:=⟨(.type "type"),none,(.cls ⟨"Mark",[(.type "object")],[(r 312),(.type "object")],311,"Mark",true,[],[(r 347),(r 381),(r 414),(r 440),(r 473),(r 506),(r 539)],false,none,false⟩),#[none,none,(some (.str "Mark" 587)),(some (.str "Mark" 595)),(some (.builtin "object.__new__")),(some (.bool true))]⟩
def aJI:Obj:=⟨(.type "getset_descriptor"),none,(.fields #[(.str "__dict__" 616),(r 312),(.builtin "function.__dict__"),(.builtin "function.__dict__#set")]),#[]⟩
def aI5:Obj:=⟨(.type "getset_descriptor"),none,(.fields #[(.str "__weakref__" 618),(r 312),(.builtin "ExceptionGroup.__weakref__"),.none]),#[]⟩
def aH0:=su 312 312 312
def aKQ:=bm "object.__init_subclass__" (r 312)
def ahG:=tu [(r 312)]
def aL6(P:Params):=di [de P "__module__" 630 mv5,de P "__qualname__" 632 (.str "Numbers" 631),de P "__firstlineno__" 634 (.int 172 633),dr P "__init__" 642 330,dr P "days" 651 337,dr P "told" 658 344,dr P "__static_attributes__" 660 345] 7
def aI0:=fD 4 [(174,329),(177,336),(180,343)]
def aG5:=cK "Numbers" "Numbers" 625 172 320 628
def aOM:=fr 322 319 mv5
def aG4:=tS 638 ["self","mask"]
def aIZ:=fz "__init__" "Numbers.__init__" (ib (tp 59) 0)
def aM0:=cO "__init__" "Numbers.__init__" 635 174 2 3 324 640
def aM5:=fQ "__init__" "Numbers.__init__" (ib (tp 59) 0) mv5 329
def aGE:=tS 646 ["self","last","first"]
def aKJ:=fz "days" "Numbers.days" (ib (tp 59) 1)
def aLW:=cO "days" "Numbers.days" 643 177 3 3 331 649
def aMB:=fQ "days" "Numbers.days" (ib (tp 59) 1) mv5 336
def aMR:=tS 655 ["self"]
def aNO:=fz "told" "Numbers.told" (ib (tp 59) 2)
def aO9:=cO "told" "Numbers.told" 652 180 1 3 338 656
def aO1:=fQ "told" "Numbers.told" (ib (tp 59) 2) mv5 343
def aK3:=tS 659 ["mask"]
def aN1(P:Params):=di [de P "__module__" 630 mv5,de P "__firstlineno__" 634 (.int 172 633),dr P "__init__" 642 330,dr P "days" 651 337,dr P "told" 658 344,dr P "__static_attributes__" 660 345,de P "__doc__" 661 .none] 2
def aL1:Obj:=⟨(.type "type"),none,(.cls ⟨"Numbers",[(r 312)],[(r 347),(r 312),(.type "object")],346,"Numbers",true,[],[],false,none,false⟩),#[(some (r 317)),none,(some (.str "Numbers" 623)),(some (.str "Numbers" 631)),(some (.builtin "object.__new__")),(some (.bool true))]⟩
def aPK:=su 347 347 347
def aOD:=bm "object.__init_subclass__" (r 347)
def aOP(P:Params):=di [de P "__module__" 671 mv5,de P "__qualname__" 673 (.str "Last" 672),de P "__firstlineno__" 675 (.int 182 674),dr P "__init__" 684 364,dr P "days" 693 371,dr P "told" 700 378,dr P "__static_attributes__" 702 379] 7
def aLT:=fD 4 [(184,363),(187,370),(192,377)]
def aH4:=cK "Last" "Last" 666 182 353 669
def aJU:=fr 355 352 mv5
def aII:=tu [(.int 0 676)]
def aHC:=tS 680 ["self","back"]
def aMQ:=fz "__init__" "Last.__init__" (ib (tp 60) 0)
def aPG:=cO "__init__" "Last.__init__" 677 184 2 3 358 682
def aMF:=fn "__init__" "Last.__init__" (ib (tp 60) 0) 3 [] (r 357) .none .none mv5 none (r 363) .none 0
def aGC:=tS 688 ["self","last","first"]
def aIX:=fT "days" "Last.days" (ib (tp 60) 1) (ib (tp 58) 0)
def aJM:=cO "days" "Last.days" 685 187 3 3 365 691
def aNF:=fS "days" "Last.days" (ib (tp 60) 1) (ib (tp 58) 0) mv5 370
def aPP:=tS 697 ["self"]
def aKW:=fz "told" "Last.told" (ib (tp 60) 2)
def aOB:=cO "told" "Last.told" 694 192 1 3 372 698
def aK9:=fQ "told" "Last.told" (ib (tp 60) 2) mv5 377
def aJS:=tS 701 ["back"]
def aKN(P:Params):=di [de P "__module__" 671 mv5,de P "__firstlineno__" 675 (.int 182 674),dr P "__init__" 684 364,dr P "days" 693 371,dr P "told" 700 378,dr P "__static_attributes__" 702 379,de P "__doc__" 703 .none] 2
def aG6:Obj:=⟨(.type "type"),none,(.cls ⟨"Last",[(r 312)],[(r 381),(r 312),(.type "object")],380,"Last",true,[],[],false,none,false⟩),#[(some (r 350)),none,(some (.str "Last" 664)),(some (.str "Last" 672)),(some (.builtin "object.__new__")),(some (.bool true))]⟩
def aOR:=su 381 381 381
def aN5:=bm "object.__init_subclass__" (r 381)
def aNY(P:Params):=di [de P "__module__" 713 mv5,de P "__qualname__" 715 (.str "Near" 714),de P "__firstlineno__" 717 (.int 196 716),dr P "__init__" 725 397,dr P "days" 734 404,dr P "told" 741 411,dr P "__static_attributes__" 743 412] 7
def aIJ:=fD 4 [(198,396),(201,403),(206,410)]
def aPX:=cK "Near" "Near" 708 196 387 711
def aJY:=fr 389 386 mv5
def aOZ:=tS 721 ["self","day"]
def aM2:=fz "__init__" "Near.__init__" (ib (tp 61) 0)
def aPI:=cO "__init__" "Near.__init__" 718 198 2 3 391 723
def aHS:=fQ "__init__" "Near.__init__" (ib (tp 61) 0) mv5 396
def aH2:=tS 729 ["self","last","first"]
def aMJ:=fz "days" "Near.days" (ib (tp 61) 1)
def aHH:=cO "days" "Near.days" 726 201 3 3 398 732
def aGK:=fQ "days" "Near.days" (ib (tp 61) 1) mv5 403
def aKI:=tS 738 ["self"]
def aOC:=fT "told" "Near.told" (ib (tp 61) 2) (ib (tp 60) 2)
def aN0:=cO "told" "Near.told" 735 206 1 3 405 739
def aNS:=fS "told" "Near.told" (ib (tp 61) 2) (ib (tp 60) 2) mv5 410
def aGX:=tS 742 ["day"]
def aOH(P:Params):=di [de P "__module__" 713 mv5,de P "__firstlineno__" 717 (.int 196 716),dr P "__init__" 725 397,dr P "days" 734 404,dr P "told" 741 411,dr P "__static_attributes__" 743 412,de P "__doc__" 744 .none] 2
def aI7:Obj:=⟨(.type "type"),none,(.cls ⟨"Near",[(r 312)],[(r 414),(r 312),(.type "object")],413,"Near",true,[],[],false,none,false⟩),#[(some (r 384)),none,(some (.str "Near" 706)),(some (.str "Near" 714)),(some (.builtin "object.__new__")),(some (.bool true))]⟩
def aOF:=su 414 414 414
def aHZ:=bm "object.__init_subclass__" (r 414)
def aKP(P:Params):=di [de P "__module__" 754 mv5,de P "__qualname__" 756 (.str "LastWork" 755),de P "__firstlineno__" 758 (.int 208 757),dr P "days" 767 430,dr P "told" 774 437,dr P "__static_attributes__" 775 438] 6
def aMC:=fD 4 [(210,429),(213,436)]
def aHF:=cK "LastWork" "LastWork" 749 208 420 752
def aHK:=fr 422 419 mv5
def aKS:=tS 762 ["self","last","first"]
def aMP:=fT "days" "LastWork.days" (ib (tp 62) 0) (ib (tp 61) 1)
def aJ0:=cO "days" "LastWork.days" 759 210 3 3 424 765
def aIM:=fS "days" "LastWork.days" (ib (tp 62) 0) (ib (tp 61) 1) mv5 429
def aM8:=tS 771 ["self"]
def aJQ:=fT "told" "LastWork.told" (ib (tp 62) 1) (ib (tp 58) 1)
def aJ8:=cO "told" "LastWork.told" 768 213 1 3 431 772
def aIV:=fS "told" "LastWork.told" (ib (tp 62) 1) (ib (tp 58) 1) mv5 436
def aLY(P:Params):=di [de P "__module__" 754 mv5,de P "__firstlineno__" 758 (.int 208 757),dr P "days" 767 430,dr P "told" 774 437,dr P "__static_attributes__" 775 438,de P "__doc__" 776 .none] 2
def aM6:Obj:=⟨(.type "type"),none,(.cls ⟨"LastWork",[(r 312)],[(r 440),(r 312),(.type "object")],439,"LastWork",true,[],[],false,none,false⟩),#[(some (r 417)),none,(some (.str "LastWork" 747)),(some (.str "LastWork" 755)),(some (.builtin "object.__new__")),(some (.bool true))]⟩
def aN2:=su 440 440 440
def aPT:=bm "object.__init_subclass__" (r 440)
def aNZ(P:Params):=di [de P "__module__" 786 mv5,de P "__qualname__" 788 (.str "Weekdays" 787),de P "__firstlineno__" 790 (.int 215 789),dr P "__init__" 798 456,dr P "days" 809 463,dr P "told" 816 470,dr P "__static_attributes__" 818 471] 7
def aI2:=fD 4 [(217,455),(220,462),(226,469)]
def aHJ:=cK "Weekdays" "Weekdays" 781 215 446 784
def aG3:=fr 448 445 mv5
def aHR:=tS 794 ["self","mask"]
def aIQ:=fT "__init__" "Weekdays.__init__" (ib (tp 63) 0) (ib (tp 59) 0)
def aO5:=cO "__init__" "Weekdays.__init__" 791 217 2 3 450 796
def aOW:=fS "__init__" "Weekdays.__init__" (ib (tp 63) 0) (ib (tp 59) 0) mv5 455
def aIS:=tS 802 ["self","last","first","weeks","week"]
def aHP:=fz "days" "Weekdays.days" (ib (tp 63) 1)
def aLP:=cO "days" "Weekdays.days" 799 220 3 3 457 807
def aNT:=fQ "days" "Weekdays.days" (ib (tp 63) 1) mv5 462
def aO7:=tS 813 ["self"]
def aJO:=fT "told" "Weekdays.told" (ib (tp 63) 2) (ib (tp 59) 2)
def aKO:=cO "told" "Weekdays.told" 810 226 1 3 464 814
def aLN:=fS "told" "Weekdays.told" (ib (tp 63) 2) (ib (tp 59) 2) mv5 469
def aNQ:=tS 817 ["mask"]
def aMV(P:Params):=di [de P "__module__" 786 mv5,de P "__firstlineno__" 790 (.int 215 789),dr P "__init__" 798 456,dr P "days" 809 463,dr P "told" 816 470,dr P "__static_attributes__" 818 471,de P "__doc__" 819 .none] 2
def aLV:Obj:=⟨(.type "type"),none,(.cls ⟨"Weekdays",[(r 312)],[(r 473),(r 312),(.type "object")],472,"Weekdays",true,[],[],false,none,false⟩),#[(some (r 443)),none,(some (.str "Weekdays" 779)),(some (.str "Weekdays" 787)),(some (.builtin "object.__new__")),(some (.bool true))]⟩
def aLH:=su 473 473 473
def aLO:=bm "object.__init_subclass__" (r 473)
def aL2(P:Params):=di [de P "__module__" 829 mv5,de P "__qualname__" 831 (.str "Nth" 830),de P "__firstlineno__" 833 (.int 228 832),dr P "__init__" 842 489,dr P "days" 852 496,dr P "told" 859 503,dr P "__static_attributes__" 862 504] 7
def aK0:=fD 4 [(230,488),(234,495),(240,502)]
def aK8:=cK "Nth" "Nth" 824 228 479 827
def aGR:=fr 481 478 mv5
def aNG:=tS 837 ["self","weekday","many"]
def aJR:=fz "__init__" "Nth.__init__" (ib (tp 64) 0)
def aLS:=cO "__init__" "Nth.__init__" 834 230 3 3 483 840
def aPO:=fQ "__init__" "Nth.__init__" (ib (tp 64) 0) mv5 488
def aOV:=tS 846 ["self","last","first","day"]
def aLL:=fz "days" "Nth.days" (ib (tp 64) 1)
def aMN:=cO "days" "Nth.days" 843 234 3 3 490 850
def aPU:=fQ "days" "Nth.days" (ib (tp 64) 1) mv5 495
def aK1:=tS 856 ["self"]
def aKY:=fT "told" "Nth.told" (ib (tp 64) 2) (ib (tp 60) 2)
def aGD:=cO "told" "Nth.told" 853 240 1 3 497 857
def aPC:=fS "told" "Nth.told" (ib (tp 64) 2) (ib (tp 60) 2) mv5 502
def aLI:=tS 860 ["many","weekday"]
def aIO(P:Params):=di [de P "__module__" 829 mv5,de P "__firstlineno__" 833 (.int 228 832),dr P "__init__" 842 489,dr P "days" 852 496,dr P "told" 859 503,dr P "__static_attributes__" 862 504,de P "__doc__" 863 .none] 2
def aOT:Obj:=⟨(.type "type"),none,(.cls ⟨"Nth",[(r 312)],[(r 506),(r 312),(.type "object")],505,"Nth",true,[],[],false,none,false⟩),#[(some (r 476)),none,(some (.str "Nth" 822)),(some (.str "Nth" 830)),(some (.builtin "object.__new__")),(some (.bool true))]⟩
def aLR:=su 506 506 506
def aLM:=bm "object.__init_subclass__" (r 506)
def aMT(P:Params):=di [de P "__module__" 873 mv5,de P "__qualname__" 875 (.str "LastOne" 874),de P "__firstlineno__" 877 (.int 242 876),dr P "__init__" 885 522,dr P "days" 894 529,dr P "told" 901 536,dr P "__static_attributes__" 903 537] 7
def aLF:=fD 4 [(244,521),(247,528),(250,535)]
def aMZ:=cK "LastOne" "LastOne" 868 242 512 871
def aIN:=fr 514 511 mv5
def aIL:=tS 881 ["self","weekday"]
def aOG:=fz "__init__" "LastOne.__init__" (ib (tp 65) 0)
def aOL:=cO "__init__" "LastOne.__init__" 878 244 2 3 516 883
def aJP:=fQ "__init__" "LastOne.__init__" (ib (tp 65) 0) mv5 521
def aKC:=tS 889 ["self","last","first"]
def aHM:=fz "days" "LastOne.days" (ib (tp 65) 1)
def aLG:=cO "days" "LastOne.days" 886 247 3 3 523 892
def aNA:=fQ "days" "LastOne.days" (ib (tp 65) 1) mv5 528
def aGQ:=tS 898 ["self"]
def aMS:=fT "told" "LastOne.told" (ib (tp 65) 2) (ib (tp 60) 2)
def aPJ:=cO "told" "LastOne.told" 895 250 1 3 530 899
def aN9:=fS "told" "LastOne.told" (ib (tp 65) 2) (ib (tp 60) 2) mv5 535
def aKE:=tS 902 ["weekday"]
def aJF(P:Params):=di [de P "__module__" 873 mv5,de P "__firstlineno__" 877 (.int 242 876),dr P "__init__" 885 522,dr P "days" 894 529,dr P "told" 901 536,dr P "__static_attributes__" 903 537,de P "__doc__" 904 .none] 2
def aMA:Obj:=⟨(.type "type"),none,(.cls ⟨"LastOne",[(r 312)],[(r 539),(r 312),(.type "object")],538,"LastOne",true,[],[],false,none,false⟩),#[(some (r 509)),none,(some (.str "LastOne" 866)),(some (.str "LastOne" 874)),(some (.builtin "object.__new__")),(some (.bool true))]⟩
def aL3:=su 539 539 539
def aJ5:=bm "object.__init_subclass__" (r 539)
def aGA:=tS 910 ["marks","last","first","mask","mark"]
def aKK:=fY "any_days" 66
def aOA:=cP "any_days" 907 252 3 3 542 915
def aMM:=fP "any_days" 66 mv5 547
def aPW:=tS 921 ["item","back","day"]
def aNC:=fY "read_day_mark" 67
def aIG:=cP "read_day_mark" 918 257 1 3 549 924
def aIT:=fP "read_day_mark" 67 mv5 554
def aF6:=tS 930 ["text","number"]
def aJ9:=fY "read_weekday" 68
def aGT:=cP "read_weekday" 927 269 1 3 556 932
def aHX:=fP "read_weekday" 68 mv5 561
def aKB:=tS 938 ["item","weekday","parts","many"]
def aLU:=fY "read_weekday_mark" 69
def aJL:=cP "read_weekday_mark" 935 272 1 3 563 942
def aL5:=fP "read_weekday_mark" 69 mv5 568
def aNB:=tS 948 ["text","low","high","read_mark","items","mask","marks","place","item","plain","mark"]
def aF9:=fY "read_items" 70
def aPR:=cP "read_items" 945 284 4 3 570 959
def aGL:=fP "read_items" 70 mv5 575
def aIR:=tS 965 ["text","read"]
def aL7:=fY "read_days" 71
def aHV:=cP "read_days" 962 302 1 3 577 967
def aL8:=fP "read_days" 71 mv5 582
def aJD:=tS 973 ["text","read","mask"]
def aKA:=fY "read_weekdays" 72
def aLJ:=cP "read_weekdays" 970 309 1 3 584 976
def aHG:=fP "read_weekdays" 72 mv5 589
def aNV:=fY "shown_marks" 73
def aN3:=co [(.str "shown_marks" 979),(.str "shown_marks" 980),(sf 981),(i 317),(i 1),(i 0),(i 0),(i 3),(r 591),(.bool true),(i 181),(r 592),.none,.none,.none,(r 593),(i 982),(i 317),(sf 983)]
def aIE:=fP "shown_marks" 73 mv5 594
def aKV:=tS 994 ["moment","time"]
def aM3:=fY "parted" 77
def aH3:=cP "parted" 991 324 1 3 596 996
def aNH:=fn "parted" "parted" (tp 77) 3 [] .none .none .none (.str "fivefields.moments" 985) none (r 601) .none 0
def aHI:=tS 1010 ["year","month","day","place"]
def aIY:=fY "kind_from" 82
def aHQ:=cP "kind_from" 1007 331 3 3 603 1014
def aLC:=fP "kind_from" 82 mv6 608
def aOE:=tS 1020 ["year","month"]
def aHL:=fY "kind_of" 83
def aJH:=cP "kind_of" 1017 334 2 3 610 1022
def aPH:=fP "kind_of" 83 mv6 615
def aPB:=tS 1028 ["kind","place","first"]
def aH1:=fY "month_at" 84
def aI1:=cP "month_at" 1025 336 1 3 617 1031
def aGV:=fP "month_at" 84 mv6 622
def t1(P:Params):BT:=brn 11 [(boot_o_0 P),(boot_o_1 P),(boot_o_2 P),(o4 P),(boot_o_4 P),(boot_o_5 P),(boot_o_6 P),(boot_o_7 P),(boot_o_8 P),(boot_o_9 P),(boot_o_10 P),o0,o5,o2,o3,o0,o1,o6,o0,o7,o8,o9,o10,o11,(o12 P),o0,o1,o13,o14,o0,(o15 P),o16,o17,o18,o19,o20,o11,(o21 P),o0,o1,o22,o23,o0,(o24 P),o25,o26,o27,o20,o11,(o28 P),o0,o29,o30,o31,o0,o1,o32,o0,o33,o34,o35,o36,(o37 P),o38,o39,o40,o20,o11,(o41 P),o0,o42,o43,o44,o0,o1,o45,o0,o46,o47,o48,o49,(o50 P),o51,o52,o53,o0,o1,o54,o0,o55,o56,o57,o58,o0,o1,o59,o0,o60,o61,o62,o0,o1,o63,o0,o64,o65,o66,o0,o1,o67,o0,o68,o69,o70,o0,o1,o71,o0,o72,o73,o74,o0,o1,o75,o0,o76,o77,o78,o0,o1,o79,o80,o81,o0,o1,o82,o0,o83,o84,o85,o0,o1,o86,o0,o87,o88,o89,o0,o1,o90,o0,o91,o92,o93,o0,o1,o94,o95,o96,o0,o1,o97,o0,o98,o99,aMG,o0,o1,aOJ,o0,aHO,aGM,aG1,o0,o1,aJB,aOI,aH5,o0,o1,aNJ,o0,aKL,aJX,aPD,o0,o1,aIC,aGJ,aN6,o0,o1,aGY,o0,aIW,aKG,aHE,o0,o1,aLA,aJ7,aOX,o0,o1,aI9,o0,aJK,aHU,aN7,o0,o1,aOY,aF8,aM9,o0,o1,aGP,o0,aPM,aOO,aJC,o0,o1,aK6,o0,aM4,aKU,aNK,o0,o1,aKM,aJV,aMK,o0,o1,aO6,o0,aON,aHN,aG7,o0,o1,aHB,o0,aPE,aI6,aOU,o0,o1,aML,o0,aGI,aHA,aLX,o0,o1,aKZ,o0,aNE,aNL,aGZ,o0,o1,aMD,o0,aG0,aO0,aMO,o0,o1,aJA,o0,aH9,aPY,aJ6,o0,o1,aHY,o0,aGS,aIB,aKX,o0,o1,aID,o0,aJ2,aKD,aNN,o0,o11,(aGW P),o0,aF7,aJT,aK5,o0,o1,aMY,o0,aK2,aL0,aG9,o0,o1,aLD,o0,aJ4,aNR,aL4,o0,(aLZ P),aNU,aJI,aI5,aH0,aKQ,ahG,o11,(aL6 P),o0,aI0,aG5,aOM,o0,o1,aG4,o0,aIZ,aM0,aM5,o0,o1,aGE,o0,aKJ,aLW,aMB,o0,o1,aMR,o0,aNO,aO9,aO1,aK3,(aN1 P),aL1,aPK,aOD,ahG,o11,(aOP P),o0,aLT,aH4,aJU,aII,o0,o1,aHC,o0,aMQ,aPG,aMF,o0,o1,aGC,o0,aIX,aJM,aNF,o0,o1,aPP,o0,aKW,aOB,aK9,aJS,(aKN P),aG6,aOR,aN5,ahG,o11,(aNY P),o0,aIJ,aPX,aJY,o0,o1,aOZ,o0,aM2,aPI,aHS,o0,o1,aH2,o0,aMJ,aHH,aGK,o0,o1,aKI,o0,aOC,aN0,aNS,aGX,(aOH P),aI7,aOF,aHZ,ahG,o11,(aKP P),o0,aMC,aHF,aHK,o0,o1,aKS,o0,aMP,aJ0,aIM,o0,o1,aM8,o0,aJQ,aJ8,aIV,o0,(aLY P),aM6,aN2,aPT,ahG,o11,(aNZ P),o0,aI2,aHJ,aG3,o0,o1,aHR,o0,aIQ,aO5,aOW,o0,o1,aIS,o0,aHP,aLP,aNT,o0,o1,aO7,o0,aJO,aKO,aLN,aNQ,(aMV P),aLV,aLH,aLO,ahG,o11,(aL2 P),o0,aK0,aK8,aGR,o0,o1,aNG,o0,aJR,aLS,aPO,o0,o1,aOV,o0,aLL,aMN,aPU,o0,o1,aK1,o0,aKY,aGD,aPC,aLI,(aIO P),aOT,aLR,aLM,ahG,o11,(aMT P),o0,aLF,aMZ,aIN,o0,o1,aIL,o0,aOG,aOL,aJP,o0,o1,aKC,o0,aHM,aLG,aNA,o0,o1,aGQ,o0,aMS,aPJ,aN9,aKE,(aJF P),aMA,aL3,aJ5,o0,o1,aGA,o0,aKK,aOA,aMM,o0,o1,aPW,o0,aNC,aIG,aIT,o0,o1,aF6,o0,aJ9,aGT,aHX,o0,o1,aKB,o0,aLU,aJL,aL5,o0,o1,aNB,o0,aF9,aPR,aGL,o0,o1,aIR,o0,aL7,aHV,aL8,o0,o1,aJD,o0,aKA,aLJ,aHG,o0,o1,aNV,aN3,aIE,o0,o1,aKV,o0,aM3,aH3,aNH,o0,o1,aHI,o0,aIY,aHQ,aLC,o0,o1,aOE,o0,aHL,aJH,aPH,o0,o1,aPB,o0,aH1,aI1,aGV]
def s1(w:World)(os:OsState):SharedT:=⟨t1 w.params,624,⟨[],[],[],0,[],[],false,#[],[],0,false,false,false,0,[2000,10,10],false,0,true,[],[],0,false⟩,#[],⟨0,0,0,0⟩,1050,os⟩
def l0:List Stmt:=(bi.drop 0).take 93
theorem r0(w:World)(os:OsState):
  segRunT treeTable pw w 11 an 1 4952 (s0 w os) (piecesOf l0 ev cd ⟨0,0,0,0⟩ bk) =
  some (.next,s1 w os,cd,⟨349,0,349,8⟩):=by kernel_rfl
def o381(P:Params):=di [de P "__name__" 165 mv7,de P "__doc__" 166 .none,de P "__package__" 167 .none,de P "__loader__" 168 (.builtin "__main__.__loader__#opaque"),de P "__spec__" 169 .none,dr P "__annotations__" 170 6,dr P "__builtins__" 171 4,de P "__file__" 173 (sf 172),de P "__cached__" 174 .none,dr P "_wall" 193 21,dr P "FieldError" 213 31,dr P "NoDay" 229 44,dr P "NoField" 254 63,dr P "NoRow" 279 82,dr P "is_whole" 288 91,dr P "MONTH_LASTS" 303 92,de P "ROUND_YEARS" 305 (.int 400 304),de P "ROUND_DAYS" 307 (.int 146097 306),dr P "is_long" 314 99,dr P "multiples_before" 322 106,dr P "days_before" 330 113,dr P "last_of" 338 120,dr P "is_date" 347 127,dr P "day_of" 353 132,dr P "year_of" 361 139,dr P "date_of" 371 146,dr P "weekday" 378 153,de P "FIGURES" 382 (.str "0123456789" 381),dr P "all_figures" 388 158,dr P "is_written" 395 165,dr P "has" 405 172,dr P "starts_of" 411 177,dr P "end_from" 420 184,dr P "ranges_of" 426 189,dr P "shown_range" 434 196,dr P "shown_ranges" 440 201,de P "MOST_SIGNS" 444 (.int 300 443),de P "MOST_ITEMS" 446 (.int 40 445),de P "MOST_STRIDE" 448 (.int 99 447),dr P "mask_of" 457 208,dr P "numbers_in" 463 213,dr P "run_mask" 472 220,dr P "read_number" 482 227,dr P "read_run" 488 232,dr P "read_strided" 501 239,dr P "read_item" 512 246,dr P "read_field" 526 253,dr P "shown_field" 535 260,de P "MOST_MARKS" 539 (.int 20 538),de P "MOST_DAY" 541 (.int 31 540),de P "MOST_BACK" 543 (.int 30 542),de P "MOST_NTH" 545 (.int 5 544),de P "SUNDAY" 547 (.int 0 546),de P "SATURDAY" 549 (.int 6 548),de P "SUNDAY_TOO" 551 (.int 7 550),de P "ALL_WEEKDAYS" 553 (.int 127 552),dr P "weekday_at" 561 267,dr P "all_days" 568 274,dr P "nearest_work" 578 281,dr P "first_one" 586 288,dr P "Mark" 622 312,dr P "Numbers" 663 347,dr P "Last" 705 381,dr P "Near" 746 414,dr P "LastWork" 778 440,dr P "Weekdays" 821 473,dr P "Nth" 865 506,dr P "LastOne" 906 539,dr P "any_days" 917 548,dr P "read_day_mark" 926 555,dr P "read_weekday" 934 562,dr P "read_weekday_mark" 944 569,dr P "read_items" 961 576,dr P "read_days" 969 583,dr P "read_weekdays" 978 590,dr P "shown_marks" 984 595,de P "DAY_MINUTES" 988 (.int 1440 987),de P "HOUR_MINUTES" 990 (.int 60 989),dr P "parted" 998 602,de P "LONG_PLACE" 1002 (.int 12 1001),de P "LONG_LAST" 1004 (.int 29 1003),de P "SHORT_YEAR" 1006 (.int 1 1005),dr P "kind_from" 1016 609,dr P "kind_of" 1024 616,dr P "month_at" 1033 623,de P "MOST_ROW_SIGNS" 1037 (.int 1600 1036),de P "MINUTE" 1039 (.int 0 1038),de P "HOUR" 1041 (.int 1 1040),de P "DAY" 1043 (.int 2 1042),de P "MONTH" 1045 (.int 3 1044),de P "WEEKDAY" 1047 (.int 4 1046),de P "NO_PLACE" 1049 (.int 5 1048),dr P "BOUNDS" 1062 624,dr P "times_of" 1072 634,dr P "days_by" 1084 641,dr P "Row" 1188 721,dr P "shown_plain" 1197 732,dr P "read_word" 1206 739,dr P "read_at" 1214 746,dr P "read_row" 1220 751,dr P "_law_cell_at" 1230 758,dr P "_law_stir" 1239 765,dr P "_law_digits" 1250 772,dr P "_law_whole" 1257 779,dr P "_law_item" 1270 786,dr P "_law_mask" 1276 791,dr P "_law_ranges" 1282 796,dr P "_law_spec" 1288 801,dr P "_law_working" 1294 806,dr P "_law_near" 1305 813,dr P "_law_on" 1311 818,dr P "_law_days" 1317 823,dr P "_law_field" 1338 830,dr P "_law_day_field" 1353 837,dr P "_law_row" 1359 842,dr P "_law_days_in" 1373 849,dr P "_law_long" 1380 856,dr P "_law_before" 1387 863,dr P "_law_last" 1395 870,dr P "_law_date" 1406 877,dr P "_law_moment" 1424 884,dr P "_law_shut" 1438 891,dr P "_law_text_of" 1448 898,dr P "_law_gathered" 1458 905,dr P "_law_cells" 1464 910,dr P "_law_many" 1474 917,dr P "_law_marks" 1480 922,dr P "_law_numbers" 1489 929,dr P "_law_shown" 1498 936,dr P "_law_good" 1511 943,dr P "law" 1517 948] 131
def o382:=fD 0 [(1,20),(5,27),(7,40),(9,52),(13,71),(18,90),(24,98),(26,105),(28,112),(31,119),(35,126),(39,131),(44,138),(49,145),(57,152),(61,157),(63,164),(66,171),(68,176),(71,183),(76,188),(78,195),(82,200),(88,207),(93,212),(95,219),(97,226),(104,231),(111,238),(118,245),(126,252),(139,259),(152,266),(154,273),(156,280),(163,287),(165,294),(172,322),(182,355),(196,389),(208,422),(215,448),(228,481),(242,514),(252,547),(257,554),(269,561),(272,568),(284,575),(302,582),(309,589),(317,594),(324,601),(331,608),(334,615),(336,622),(351,633),(356,640),(364,647),(413,731),(416,738),(423,745),(428,750),(436,757),(440,764),(444,771),(455,778),(457,785),(471,790),(473,795),(483,800),(503,805),(505,812),(513,817),(515,822),(530,829),(543,836),(554,841),(562,848),(573,855),(575,862),(577,869),(581,876),(592,883),(601,890),(614,897),(627,904),(638,909),(640,916),(651,921),(655,928),(659,935),(663,942),(675,947)]
def o383:=di [⟨0,(.int 0 1050),(r 625)⟩,⟨1,(.int 1 1053),(r 626)⟩,⟨3,(.int 3 1056),(r 627)⟩] 3
def o384:=tu [(.int 0 1051),(.int 59 1052)]
def o385:=tu [(.int 0 1054),(.int 23 1055)]
def o386:=tu [(.int 1 1057),(.int 12 1058)]
def o387:=tS 1066 ["hours","minutes","times","hour"]
def o388:=fY "times_of" 94
def o389:=cP "times_of" 1063 351 2 3 628 1070
def o390:=fP "times_of" 94 mv0 633
def o391:=tS 1076 ["days","weekdays","last","first","mask","marks"]
def o392:=fY "days_by" 95
def o393:=cP "days_by" 1073 356 4 3 635 1082
def o394:=fP "days_by" 95 mv0 640
def o395(P:Params):=di [de P "__module__" 1092 mv0,de P "__qualname__" 1094 (.str "Row" 1093),de P "__firstlineno__" 1096 (.int 364 1095),dr P "__init__" 1104 655,dr P "minutes" 1111 662,dr P "hours" 1118 669,dr P "months" 1125 676,dr P "times" 1132 683,dr P "days_in" 1141 690,dr P "on_days" 1149 697,dr P "holds" 1157 704,dr P "shut_by" 1167 711,dr P "shown" 1174 718,dr P "__static_attributes__" 1181 719] 14
def o396:=fD 4 [(366,654),(374,661),(377,668),(380,675),(383,682),(386,689),(392,696),(395,703),(398,710),(411,717)]
def o397:=cK "Row" "Row" 1087 364 645 1090
def o398:=fr 647 644 mv0
def o399:=tS 1100 ["self","fields"]
def o400:=fz "__init__" "Row.__init__" (ib (tp 96) 0)
def o401:=cO "__init__" "Row.__init__" 1097 366 2 3 649 1102
def o402:=fQ "__init__" "Row.__init__" (ib (tp 96) 0) mv0 654
def o403:=tS 1108 ["self"]
def o404:=fT "minutes" "Row.minutes" (ib (tp 96) 1) (ib (tp 58) 1)
def o405:=cO "minutes" "Row.minutes" 1105 374 1 3 656 1109
def o406:=fS "minutes" "Row.minutes" (ib (tp 96) 1) (ib (tp 58) 1) mv0 661
def o407:=tS 1115 ["self"]
def o408:=fT "hours" "Row.hours" (ib (tp 96) 2) (ib (tp 58) 1)
def o409:=cO "hours" "Row.hours" 1112 377 1 3 663 1116
def o410:=fS "hours" "Row.hours" (ib (tp 96) 2) (ib (tp 58) 1) mv0 668
def o411:=tS 1122 ["self"]
def o412:=fz "months" "Row.months" (ib (tp 96) 3)
def o413:=cO "months" "Row.months" 1119 380 1 3 670 1123
def o414:=fQ "months" "Row.months" (ib (tp 96) 3) mv0 675
def o415:=tS 1129 ["self"]
def o416:=fT "times" "Row.times" (ib (tp 96) 4) (ib (tp 58) 1)
def o417:=cO "times" "Row.times" 1126 383 1 3 677 1130
def o418:=fS "times" "Row.times" (ib (tp 96) 4) (ib (tp 58) 1) mv0 682
def o419:=tS 1136 ["self","kind","month"]
def o420:=fz "days_in" "Row.days_in" (ib (tp 96) 5)
def o421:=cO "days_in" "Row.days_in" 1133 386 2 3 684 1139
def o422:=fQ "days_in" "Row.days_in" (ib (tp 96) 5) mv0 689
def o423:=tS 1145 ["self","kind"]
def o424:=fz "on_days" "Row.on_days" (ib (tp 96) 6)
def o425:=cO "on_days" "Row.on_days" 1142 392 2 3 691 1147
def o426:=fQ "on_days" "Row.on_days" (ib (tp 96) 6) mv0 696
def o427:=tS 1153 ["self","moment"]
def o428:=fz "holds" "Row.holds" (ib (tp 96) 7)
def o429:=cO "holds" "Row.holds" 1150 395 2 3 698 1155
def o430:=fQ "holds" "Row.holds" (ib (tp 96) 7) mv0 703
def o431:=tS 1161 ["self","moment","parts","date"]
def o432:=fz "shut_by" "Row.shut_by" (ib (tp 96) 8)
def o433:=cO "shut_by" "Row.shut_by" 1158 398 2 3 705 1165
def o434:=fQ "shut_by" "Row.shut_by" (ib (tp 96) 8) mv0 710
def o435:=tS 1171 ["self"]
def o436:=fz "shown" "Row.shown" (ib (tp 96) 9)
def o437:=cO "shown" "Row.shown" 1168 411 1 3 712 1172
def o438:=fQ "shown" "Row.shown" (ib (tp 96) 9) mv0 717
def o439:=tS 1175 ["day_marks","hour_mask","minute_mask","month_mask","time_mask","weekday_marks"]
def o440(P:Params):=di [de P "__module__" 1092 mv0,de P "__firstlineno__" 1096 (.int 364 1095),dr P "__init__" 1104 655,dr P "minutes" 1111 662,dr P "hours" 1118 669,dr P "months" 1125 676,dr P "times" 1132 683,dr P "days_in" 1141 690,dr P "on_days" 1149 697,dr P "holds" 1157 704,dr P "shut_by" 1167 711,dr P "shown" 1174 718,dr P "__static_attributes__" 1181 719,dr P "__dict__" 1183 722,dr P "__weakref__" 1185 723,de P "__doc__" 1186 .none] 4
def o441:Obj:=⟨(.type "type"),none,(.cls ⟨"Row",[(.type "object")],[(r 721),(.type "object")],720,"Row",true,[],[],false,none,false⟩),#[none,none,(some (.str "Row" 1085)),(some (.str "Row" 1093)),(some (.builtin "object.__new__")),(some (.bool true))]⟩
def o442:Obj:=⟨(.type "getset_descriptor"),none,(.fields #[(.str "__dict__" 1182),(r 721),(.builtin "function.__dict__"),(.builtin "function.__dict__#set")]),#[]⟩
def o443:Obj:=⟨(.type "getset_descriptor"),none,(.fields #[(.str "__weakref__" 1184),(r 721),(.builtin "ExceptionGroup.__weakref__"),.none]),#[]⟩
def o444:=su 721 721 721
def o445:=bm "object.__init_subclass__" (r 721)
def o446:=tS 1192 ["mask","place","bounds"]
def o447:=fY "shown_plain" 97
def o448:=cP "shown_plain" 1189 413 2 3 726 1195
def o449:=fP "shown_plain" 97 mv0 731
def o450:=tS 1201 ["word","place","bounds"]
def o451:=fY "read_word" 98
def o452:=cP "read_word" 1198 416 2 3 733 1204
def o453:=fP "read_word" 98 mv0 738
def o454:=tS 1210 ["word","place"]
def o455:=fY "read_at" 99
def o456:=cP "read_at" 1207 423 2 3 740 1212
def o457:=fP "read_at" 99 mv0 745
def o458:=fY "read_row" 100
def o459:=co [(.str "read_row" 1215),(.str "read_row" 1216),(sf 1217),(i 428),(i 1),(i 0),(i 0),(i 3),(r 747),(.bool true),(i 181),(r 748),.none,.none,.none,(r 749),(i 1218),(i 428),(sf 1219)]
def o460:=fP "read_row" 100 mv0 750
def o461:=tS 1226 ["_law_script","_law_k"]
def o462:=fY "_law_cell_at" 102
def o463:=cP "_law_cell_at" 1223 436 2 3 752 1228
def o464:=fP "_law_cell_at" 102 mv7 757
def o465:=tS 1234 ["_law_number","_law_first","_law_second"]
def o466:=fY "_law_stir" 103
def o467:=cP "_law_stir" 1231 440 1 3 759 1237
def o468:=fP "_law_stir" 103 mv7 764
def o469:=tS 1243 ["_law_cell","_law_sizes","_law_mixed","_law_found","_law_size"]
def o470:=fY "_law_digits" 104
def o471:=cP "_law_digits" 1240 444 3 3 766 1248
def o472:=fP "_law_digits" 104 mv7 771
def o473:=tS 1254 ["_law_found"]
def o474:=fY "_law_whole" 105
def o475:=cP "_law_whole" 1251 455 1 3 773 1255
def o476:=fP "_law_whole" 105 mv7 778
def o477:=tS 1261 ["_law_way","_law_first","_law_last_here","_law_step","_law_bounds","_law_low","_law_high"]
def o478:=fY "_law_item" 106
def o479:=cP "_law_item" 1258 457 5 3 780 1268
def o480:=fP "_law_item" 106 mv7 785
def o481:=fY "_law_mask" 107
def o482:=co [(.str "_law_mask" 1271),(.str "_law_mask" 1272),(sf 1273),(i 471),(i 1),(i 0),(i 0),(i 3),(r 787),(.bool true),(i 181),(r 788),.none,.none,.none,(r 789),(i 1274),(i 471),(sf 1275)]
def o483:=fP "_law_mask" 107 mv7 790
def o484:=fY "_law_ranges" 108
def o485:=co [(.str "_law_ranges" 1277),(.str "_law_ranges" 1278),(sf 1279),(i 473),(i 1),(i 0),(i 0),(i 3),(r 792),(.bool true),(i 181),(r 793),.none,.none,.none,(r 794),(i 1280),(i 473),(sf 1281)]
def o486:=fP "_law_ranges" 108 mv7 795
def o487:=fY "_law_spec" 109
def o488:=co [(.str "_law_spec" 1283),(.str "_law_spec" 1284),(sf 1285),(i 483),(i 2),(i 0),(i 0),(i 3),(r 797),(.bool true),(i 181),(r 798),.none,.none,.none,(r 799),(i 1286),(i 483),(sf 1287)]
def o489:=fP "_law_spec" 109 mv7 800
def o490:=fY "_law_working" 110
def o491:=co [(.str "_law_working" 1289),(.str "_law_working" 1290),(sf 1291),(i 503),(i 2),(i 0),(i 0),(i 3),(r 802),(.bool true),(i 181),(r 803),.none,.none,.none,(r 804),(i 1292),(i 503),(sf 1293)]
def o492:=fP "_law_working" 110 mv7 805
def o493:=tS 1298 ["_law_day","_law_last_here","_law_first","_law_found","_law_other"]
def o494:=fY "_law_near" 111
def o495:=cP "_law_near" 1295 505 3 3 807 1303
def o496:=fP "_law_near" 111 mv7 812
def o497:=fY "_law_on" 112
def o498:=co [(.str "_law_on" 1306),(.str "_law_on" 1307),(sf 1308),(i 513),(i 3),(i 0),(i 0),(i 3),(r 814),(.bool true),(i 181),(r 815),.none,.none,.none,(r 816),(i 1309),(i 513),(sf 1310)]
def o499:=fP "_law_on" 112 mv7 817
def o500:=fY "_law_days" 113
def o501:=co [(.str "_law_days" 1312),(.str "_law_days" 1313),(sf 1314),(i 515),(i 4),(i 0),(i 0),(i 3),(r 819),(.bool true),(i 181),(r 820),.none,.none,.none,(r 821),(i 1315),(i 515),(sf 1316)]
def o502:=fP "_law_days" 113 mv7 822
def o503:=tS 1321 ["_law_cell","_law_low","_law_high","_law_mixed","_law_wide","_law_parts","_law_texts","_law_numbers_here","_law_k","_law_way","_law_first","_law_last_here","_law_step","_law_text","_law_some"]
def o504:=fY "_law_field" 114
def o505:=cP "_law_field" 1318 530 4 3 824 1336
def o506:=fP "_law_field" 114 mv7 829
def o507:=tS 1342 ["_law_cell","_law_week","_law_mixed","_law_parts","_law_texts","_law_specs","_law_k","_law_text","_law_spec_here"]
def o508:=fY "_law_day_field" 115
def o509:=cP "_law_day_field" 1339 543 3 3 831 1351
def o510:=fP "_law_day_field" 115 mv7 836
def o511:=fY "_law_row" 116
def o512:=co [(.str "_law_row" 1354),(.str "_law_row" 1355),(sf 1356),(i 554),(i 2),(i 0),(i 0),(i 3),(r 838),(.bool true),(i 181),(r 839),.none,.none,.none,(r 840),(i 1357),(i 554),(sf 1358)]
def o513:=fP "_law_row" 116 mv7 841
def o514:=tS 1363 ["_law_row_here","_law_month","_law_last_here","_law_first","_law_found","_law_specs","_law_week","_law_spec_here"]
def o515:=fY "_law_days_in" 117
def o516:=cP "_law_days_in" 1360 562 4 3 843 1371
def o517:=fP "_law_days_in" 117 mv7 848
def o518:=tS 1377 ["_law_year"]
def o519:=fY "_law_long" 118
def o520:=cP "_law_long" 1374 573 1 3 850 1378
def o521:=fP "_law_long" 118 mv7 855
def o522:=tS 1384 ["_law_year"]
def o523:=fT "_law_before" "_law_before" (tp 119) (tp 118)
def o524:=cP "_law_before" 1381 575 1 3 857 1385
def o525:=fS "_law_before" "_law_before" (tp 119) (tp 118) mv7 862
def o526:=tS 1391 ["_law_year","_law_month"]
def o527:=fY "_law_last" 120
def o528:=cP "_law_last" 1388 577 2 3 864 1393
def o529:=fP "_law_last" 120 mv7 869
def o530:=tS 1399 ["_law_day","_law_rounds","_law_rest","_law_year","_law_month"]
def o531:=fY "_law_date" 121
def o532:=cP "_law_date" 1396 581 1 3 871 1404
def o533:=fP "_law_date" 121 mv7 876
def o534:=tS 1410 ["_law_cell","_law_mixed","_law_far","_law_way","_law_near_here","_law_hundreds","_law_edge","_law_day","_law_time","_law_turn","_law_year","_law_moment_here"]
def o535:=fY "_law_moment" 122
def o536:=cP "_law_moment" 1407 592 2 3 878 1422
def o537:=fP "_law_moment" 122 mv7 883
def o538:=tS 1428 ["_law_row_here","_law_moment_here","_law_day","_law_rest","_law_year","_law_month","_law_date_here","_law_first"]
def o539:=fY "_law_shut" 123
def o540:=cP "_law_shut" 1425 601 2 3 885 1436
def o541:=fP "_law_shut" 123 mv7 890
def o542:=tS 1442 ["_law_spec_here","_law_word","_law_one","_law_other"]
def o543:=fY "_law_text_of" 124
def o544:=cP "_law_text_of" 1439 614 1 3 892 1446
def o545:=fP "_law_text_of" 124 mv7 897
def o546:=tS 1452 ["_law_specs","_law_mask_here","_law_others","_law_spec_here"]
def o547:=fY "_law_gathered" 125
def o548:=cP "_law_gathered" 1449 627 1 3 899 1456
def o549:=fP "_law_gathered" 125 mv7 904
def o550:=fY "_law_cells" 126
def o551:=co [(.str "_law_cells" 1459),(.str "_law_cells" 1460),(sf 1461),(i 638),(i 2),(i 0),(i 0),(i 3),(r 906),(.bool true),(i 181),(r 907),.none,.none,.none,(r 908),(i 1462),(i 638),(sf 1463)]
def o552:=fP "_law_cells" 126 mv7 909
def o553:=tS 1468 ["_law_parts","_law_texts","_law_specs","_law_number"]
def o554:=fY "_law_many" 127
def o555:=cP "_law_many" 1465 640 1 3 911 1472
def o556:=fP "_law_many" 127 mv7 916
def o557:=fY "_law_marks" 128
def o558:=co [(.str "_law_marks" 1475),(.str "_law_marks" 1476),(sf 1477),(i 651),(i 1),(i 0),(i 0),(i 3),(r 918),(.bool true),(i 181),(r 919),.none,.none,.none,(r 920),(i 1478),(i 651),(sf 1479)]
def o559:=fP "_law_marks" 128 mv7 921
def o560:=tS 1484 ["_law_mask_here","_law_low","_law_high"]
def o561:=fY "_law_numbers" 129
def o562:=cP "_law_numbers" 1481 655 3 3 923 1487
def o563:=fP "_law_numbers" 129 mv7 928
def o564:=tS 1493 ["_law_row_here","_law_minutes","_law_hours"]
def o565:=fY "_law_shown" 130
def o566:=cP "_law_shown" 1490 659 1 3 930 1496
def o567:=fP "_law_shown" 130 mv7 935
def o568:=tS 1502 ["_law_text","_law_row_here","_law_moments","_law_found","_law_shown_here","_law_again","_law_moment_here"]
def o569:=fY "_law_good" 131
def o570:=cP "_law_good" 1499 663 3 3 937 1509
def o571:=fP "_law_good" 131 mv7 942
def o572:=fY "law" 132
def o573:=co [(.str "law" 1512),(.str "law" 1513),(sf 1514),(i 675),(i 1),(i 0),(i 0),(i 3),(r 944),(.bool true),(i 181),(r 945),.none,.none,.none,(r 946),(i 1515),(i 675),(sf 1516)]
def o574:=fP "law" 132 mv7 947
def hL(P:Params):List Obj:=[(boot_o_0 P),(boot_o_1 P),(boot_o_2 P),(o381 P),(boot_o_4 P),(boot_o_5 P),(boot_o_6 P),(boot_o_7 P),(boot_o_8 P),(boot_o_9 P),(boot_o_10 P),o0,o382,o2,o3,o0,o1,o6,o0,o7,o8,o9,o10,o11,(o12 P),o0,o1,o13,o14,o0,(o15 P),o16,o17,o18,o19,o20,o11,(o21 P),o0,o1,o22,o23,o0,(o24 P),o25,o26,o27,o20,o11,(o28 P),o0,o29,o30,o31,o0,o1,o32,o0,o33,o34,o35,o36,(o37 P),o38,o39,o40,o20,o11,(o41 P),o0,o42,o43,o44,o0,o1,o45,o0,o46,o47,o48,o49,(o50 P),o51,o52,o53,o0,o1,o54,o0,o55,o56,o57,o58,o0,o1,o59,o0,o60,o61,o62,o0,o1,o63,o0,o64,o65,o66,o0,o1,o67,o0,o68,o69,o70,o0,o1,o71,o0,o72,o73,o74,o0,o1,o75,o0,o76,o77,o78,o0,o1,o79,o80,o81,o0,o1,o82,o0,o83,o84,o85,o0,o1,o86,o0,o87,o88,o89,o0,o1,o90,o0,o91,o92,o93,o0,o1,o94,o95,o96,o0,o1,o97,o0,o98,o99,aMG,o0,o1,aOJ,o0,aHO,aGM,aG1,o0,o1,aJB,aOI,aH5,o0,o1,aNJ,o0,aKL,aJX,aPD,o0,o1,aIC,aGJ,aN6,o0,o1,aGY,o0,aIW,aKG,aHE,o0,o1,aLA,aJ7,aOX,o0,o1,aI9,o0,aJK,aHU,aN7,o0,o1,aOY,aF8,aM9,o0,o1,aGP,o0,aPM,aOO,aJC,o0,o1,aK6,o0,aM4,aKU,aNK,o0,o1,aKM,aJV,aMK,o0,o1,aO6,o0,aON,aHN,aG7,o0,o1,aHB,o0,aPE,aI6,aOU,o0,o1,aML,o0,aGI,aHA,aLX,o0,o1,aKZ,o0,aNE,aNL,aGZ,o0,o1,aMD,o0,aG0,aO0,aMO,o0,o1,aJA,o0,aH9,aPY,aJ6,o0,o1,aHY,o0,aGS,aIB,aKX,o0,o1,aID,o0,aJ2,aKD,aNN,o0,o11,(aGW P),o0,aF7,aJT,aK5,o0,o1,aMY,o0,aK2,aL0,aG9,o0,o1,aLD,o0,aJ4,aNR,aL4,o0,(aLZ P),aNU,aJI,aI5,aH0,aKQ,ahG,o11,(aL6 P),o0,aI0,aG5,aOM,o0,o1,aG4,o0,aIZ,aM0,aM5,o0,o1,aGE,o0,aKJ,aLW,aMB,o0,o1,aMR,o0,aNO,aO9,aO1,aK3,(aN1 P),aL1,aPK,aOD,ahG,o11,(aOP P),o0,aLT,aH4,aJU,aII,o0,o1,aHC,o0,aMQ,aPG,aMF,o0,o1,aGC,o0,aIX,aJM,aNF,o0,o1,aPP,o0,aKW,aOB,aK9,aJS,(aKN P),aG6,aOR,aN5,ahG,o11,(aNY P),o0,aIJ,aPX,aJY,o0,o1,aOZ,o0,aM2,aPI,aHS,o0,o1,aH2,o0,aMJ,aHH,aGK,o0,o1,aKI,o0,aOC,aN0,aNS,aGX,(aOH P),aI7,aOF,aHZ,ahG,o11,(aKP P),o0,aMC,aHF,aHK,o0,o1,aKS,o0,aMP,aJ0,aIM,o0,o1,aM8,o0,aJQ,aJ8,aIV,o0,(aLY P),aM6,aN2,aPT,ahG,o11,(aNZ P),o0,aI2,aHJ,aG3,o0,o1,aHR,o0,aIQ,aO5,aOW,o0,o1,aIS,o0,aHP,aLP,aNT,o0,o1,aO7,o0,aJO,aKO,aLN,aNQ,(aMV P),aLV,aLH,aLO,ahG,o11,(aL2 P),o0,aK0,aK8,aGR,o0,o1,aNG,o0,aJR,aLS,aPO,o0,o1,aOV,o0,aLL,aMN,aPU,o0,o1,aK1,o0,aKY,aGD,aPC,aLI,(aIO P),aOT,aLR,aLM,ahG,o11,(aMT P),o0,aLF,aMZ,aIN,o0,o1,aIL,o0,aOG,aOL,aJP,o0,o1,aKC,o0,aHM,aLG,aNA,o0,o1,aGQ,o0,aMS,aPJ,aN9,aKE,(aJF P),aMA,aL3,aJ5,o0,o1,aGA,o0,aKK,aOA,aMM,o0,o1,aPW,o0,aNC,aIG,aIT,o0,o1,aF6,o0,aJ9,aGT,aHX,o0,o1,aKB,o0,aLU,aJL,aL5,o0,o1,aNB,o0,aF9,aPR,aGL,o0,o1,aIR,o0,aL7,aHV,aL8,o0,o1,aJD,o0,aKA,aLJ,aHG,o0,o1,aNV,aN3,aIE,o0,o1,aKV,o0,aM3,aH3,aNH,o0,o1,aHI,o0,aIY,aHQ,aLC,o0,o1,aOE,o0,aHL,aJH,aPH,o0,o1,aPB,o0,aH1,aI1,aGV,o383,o384,o385,o386,o0,o1,o387,o0,o388,o389,o390,o0,o1,o391,o0,o392,o393,o394,o0,o11,(o395 P),o0,o396,o397,o398,o0,o1,o399,o0,o400,o401,o402,o0,o1,o403,o0,o404,o405,o406,o0,o1,o407,o0,o408,o409,o410,o0,o1,o411,o0,o412,o413,o414,o0,o1,o415,o0,o416,o417,o418,o0,o1,o419,o0,o420,o421,o422,o0,o1,o423,o0,o424,o425,o426,o0,o1,o427,o0,o428,o429,o430,o0,o1,o431,o0,o432,o433,o434,o0,o1,o435,o0,o436,o437,o438,o439,(o440 P),o441,o442,o443,o444,o445,o0,o1,o446,o0,o447,o448,o449,o0,o1,o450,o0,o451,o452,o453,o0,o1,o454,o0,o455,o456,o457,o0,o1,o458,o459,o460,o0,o1,o461,o0,o462,o463,o464,o0,o1,o465,o0,o466,o467,o468,o0,o1,o469,o0,o470,o471,o472,o0,o1,o473,o0,o474,o475,o476,o0,o1,o477,o0,o478,o479,o480,o0,o1,o481,o482,o483,o0,o1,o484,o485,o486,o0,o1,o487,o488,o489,o0,o1,o490,o491,o492,o0,o1,o493,o0,o494,o495,o496,o0,o1,o497,o498,o499,o0,o1,o500,o501,o502,o0,o1,o503,o0,o504,o505,o506,o0,o1,o507,o0,o508,o509,o510,o0,o1,o511,o512,o513,o0,o1,o514,o0,o515,o516,o517,o0,o1,o518,o0,o519,o520,o521,o0,o1,o522,o0,o523,o524,o525,o0,o1,o526,o0,o527,o528,o529,o0,o1,o530,o0,o531,o532,o533,o0,o1,o534,o0,o535,o536,o537,o0,o1,o538,o0,o539,o540,o541,o0,o1,o542,o0,o543,o544,o545,o0,o1,o546,o0,o547,o548,o549,o0,o1,o550,o551,o552,o0,o1,o553,o0,o554,o555,o556,o0,o1,o557,o558,o559,o0,o1,o560,o0,o561,o562,o563,o0,o1,o564,o0,o565,o566,o567,o0,o1,o568,o0,o569,o570,o571,o0,o1,o572,o573,o574]
def t2(P:Params):BT:=brn 11 (hL P)
def s2(w:World)(os:OsState):SharedT:=⟨t2 w.params,949,⟨[],[],[],0,[],[],false,#[],[],0,false,false,false,0,[2000,10,10],false,0,true,[],[],0,false⟩,#[],⟨0,0,0,0⟩,1518,os⟩
def l1:List Stmt:=(bi.drop 93).take 40
theorem r1(w:World)(os:OsState):
  segRunT treeTable pw w 11 an 1 1722 (s1 w os) (piecesOf l1 ev cd ⟨349,0,349,8⟩ bk) =
  some (.next,s2 w os,cd,⟨675,0,688,15⟩):=
 byRow2 "special-get-raises" (P:=fun w=>segRunT treeTable pw w 11 an 1 1722 (s1 w os) (piecesOf l1 ev cd ⟨349,0,349,8⟩ bk)=some (.next,s2 w os,cd,⟨675,0,688,15⟩)) (fun w=>by kernel_rfl) (fun w=>by kernel_rfl) w
def hF(P:Params):Heap:=⟨⟨hL P⟩,⟨[],[],[],0,[],[],false,#[],[],0,false,false,false,0,[2000,10,10],false,0,true,[],[],0,false⟩⟩
def sF(w:World)(os:OsState):Shared:=⟨hF w.params,#[],⟨0,0,0,0⟩,1518,os⟩
theorem fin(w:World)(os:OsState):
  topRun treeTable pw w 11 an 2 (s2 w os).abs (restOf [] ev cd ⟨675,0,688,15⟩ bk) =
  some (sF w os):=by kernel_rfl
theorem bis:bi=(l0++(l1++[])):=by kernel_rfl
theorem run(w:World)(os:OsState):topRun treeTable pw w 11 an (12+(1+(4952+(1722+(2))))) ⟨boot_heap w.params,⟨[]⟩,boot_drawn,boot_toks,os⟩ (topStub pw)=some (sF w os):=by
 refine go_top (pre w os) (piece_block (blk w os) ?_)
 rw[bis]
 exact (piece_app (segRun_of (r0 w os)) (piece_app (segRun_of (r1 w os)) (fin w os)))
theorem opn:∀w:World,(fencedOpening treeTable pw w 13470).map (fun s=>(s.heap,s.gens,s.drawn,s.toks))=some (boot_heap w.params,⟨[]⟩,boot_drawn,boot_toks):=
 boot_open (by kernel_rfl) rfl (fun s=>by kernel_rfl)
theorem siz(w:World):((boot_heap w.params).isNs mainGlobals&&(⟨[]⟩:Array GenState).size==0,(boot_heap w.params).objs.size,(boot_heap w.params).nsMap mainGlobals "__annotations__")=(true,11,an):=by kernel_rfl
end
end
theorem aNW{q:Program}{loose mods:List Str}{Xt:Shared->Bool}{s:Shared}
  (e1:seen ((recsOf q).map (·.name)) (ownsOf q) [] {s with gens:= #[]}=expectedOf q) (e2:s.heap.bltView=bltViewBooted)
  (a1:s.heap.keysOk (looseW q loose) ((recsOf q).map (·.name)) ((litsOf q).map (·.1)) ((clssOf q (looseW q loose)).map (·.name))=true)
  (a2:s.heap.accountedOkI mods=true) (a3:s.heap.isNs mainGlobals=true) (a4:s.heap.isNs builtinsNs=true)
  (a5:tablesOk q s.heap=true) (a6:Xt s=true) (a7:(s.gens.size==0)=true) (e4:tabsOk q s=true)
  (e5:pinSeenD q (drecsOf q) s=pinGoodD (drecsOf q)) (e6:plainSeenE q (looseW q loose) s=plainGoodE q (looseW q loose))
  (e7:plainSeenD q loose s=plainGoodD q loose) (e8:wideSeen q s=wideGood q) (e9:clsSeenW q loose s=clsGoodW q loose):
  openSeen q loose mods Xt true s=openGood q loose:=by
 unfold openSeen openGood
 rw[e1,e2,a1,a2,a3,a4,a5,a6,if_pos rfl,a7,e4,e5,e6,e7,e8,e9];rfl
theorem aKH{α:Type}(n:Nat){l r:List α}(h1:l.take n=r.take n)(h2:l.drop n=r.drop n):l=r:=by
 rw[←List.take_append_drop n l,h1,h2,List.take_append_drop]
noncomputable def seenBy:Program:=view PySem.Challenge.pw_fivefields_k45_rows_shown [0,2,3,4,5,7,9,10,11,12,13,14,15,16,17,18,19,20,22,23,24,26,27,28,29,30,31,33,34,35,36,37,38,39,40,41,42,43,44,46,47,48,49,50,51,52,53,54,55,56,57,58,59,60,61,62,63,64,65,66,67,68,69,70,71,72,73,75,76,77,79,80,81,82,83,84,86,87,88,89,90,91,92,93,94,95,96,97,98,99,100,102,103,104,105,106,107,108,109,110,111,112,113,114,115,116,117,118,119,120,121,122,123,124,125,126,127,128,129,130,131,132]
noncomputable def free:List Str:=[Str.ofString "Last",Str.ofString "BOUNDS"]
noncomputable def read:List (Str×WData):=[]
section
set_option maxHeartbeats 0
set_option maxRecDepth 100000
noncomputable section
def XT:Shared->Bool:=fun z=>xlAt seenBy read z&&recOk (RowW.records (OpenRow.toRowW (OpenLaw.row PySem.Challenge.rw_fivefields_k45_rows_shown))) z
abbrev SE(w:World)(os:OsState):=openSeen seenBy free (importedModules pw.main.body) XT true (sF w os)
section
variable(w:World)(os:OsState)
theorem z1:seen ((recsOf seenBy).map (·.name)) (ownsOf seenBy) [] {sF w os with gens:= #[]}=expectedOf seenBy:=by kernel_rfl
theorem z2:(sF w os).heap.bltView=bltViewBooted:=by kernel_rfl
theorem y1:(sF w os).heap.keysOk (looseW seenBy free) ((recsOf seenBy).map (·.name)) ((litsOf seenBy).map (·.1)) ((clssOf seenBy (looseW seenBy free)).map (·.name))=true:=by kernel_rfl
theorem y2:(sF w os).heap.accountedOkI (importedModules pw.main.body)=true:=by kernel_rfl
theorem y3:(sF w os).heap.isNs mainGlobals=true:=by kernel_rfl
theorem y4:(sF w os).heap.isNs builtinsNs=true:=by kernel_rfl
theorem y5:tablesOk seenBy (sF w os).heap=true:=by kernel_rfl
theorem y6:XT (sF w os)=true:=by kernel_rfl
theorem y7:((sF w os).gens.size==0)=true:=by kernel_rfl
theorem z4:tabsOk seenBy (sF w os)=true:=by kernel_rfl
theorem z5:pinSeenD seenBy (drecsOf seenBy) (sF w os)=pinGoodD (drecsOf seenBy):=by kernel_rfl
theorem z6:plainSeenE seenBy (looseW seenBy free) (sF w os)=plainGoodE seenBy (looseW seenBy free):=by kernel_rfl
theorem z7:plainSeenD seenBy free (sF w os)=plainGoodD seenBy free:=by kernel_rfl
theorem z8:wideSeen seenBy (sF w os)=wideGood seenBy:=by kernel_rfl
theorem z9:clsSeenW seenBy free (sF w os)=clsGoodW seenBy free:=by kernel_rfl
theorem look:SE w os=openGood seenBy free:=aNW (q:=seenBy) (loose:=free) (mods:=importedModules pw.main.body) (Xt:=XT) (s:=sF w os) (z1 w os) (z2 w os) (y1 w os) (y2 w os) (y3 w os) (y4 w os) (y5 w os) (y6 w os) (y7 w os) (z4 w os) (z5 w os) (z6 w os) (z7 w os) (z8 w os) (z9 w os)
end
theorem lk0(w:World)(os:OsState):(staticsOk (importedModules pw.main.body) (boot_heap w.params) (hF w.params)&&namesBound pw (hF w.params)
  &&gensDone (sF w os)&&laidKept (boot_heap w.params) (hF w.params))=true:=by kernel_rfl
section
set_option Elab.async false
local macro_rules
  | `(tactic| o_head $H) => `(tactic| (have kk := $H; assumption))
theorem d0(h:PySem.Challenge.rw_fivefields_k45_rows_shown.row.Holds):PySem.Challenge.rw_fivefields_k45_rows_shown.row.Holds:=by
 w_on
 k_head
end
theorem kk(w:World)(os:OsState):((d0.heap_1 w.params).map fun p=>p.1).map (sF w os).heap.get? =(d0.heap_1 w.params).map fun p=>some p.2:=by
 iterate 3 (refine aKH 190 ?_ ?_;(· as_aux_lemma=>kernel_rfl))
 as_aux_lemma=>kernel_rfl
end
end
end Hd
set_option Elab.async false
set_option linter.all false
set_option maxRecDepth 100000
namespace L2
open PySem PySem.Spec PyProof.Rows
abbrev FG:=PySem.W.Frag
abbrev dL:=@wpAny_passesOwn
abbrev dM:=@wpAny_newObj_type
abbrev dN:=@wpAny_bind
abbrev dO:=@wpAny_mono
abbrev dP:=@wpAny_setState_of
abbrev dQ:=@sizeLine_eq
abbrev dR:=@wpAny_holding
abbrev dS:=@of_decide_eq_true
abbrev dU:=@decide_eq_true
abbrev dW:=@boot_range
abbrev dX:=@decide_eq_true_eq
abbrev dY:=@decide_eq_false
abbrev dZ:=@wpAny_Call_Name_kw
abbrev eC:=@wpAny_pure
abbrev eE:=@wpAny_truthy_bool
abbrev aM:=@List.length_map
abbrev aO:=@Nat.le_refl
abbrev aP:=@List.length_append
abbrev aQ:=@Heap.lt_size
abbrev aR:=@List.mem_cons
abbrev aS:=@Heap.get?_push_of_some
abbrev aT:=@List.map_append
abbrev aU:=@Int.le_refl
abbrev aV:=@Nat.ne_of_lt
abbrev aW:=@Bool.false_ne_true
abbrev aX:=@Nat.lt_of_lt_of_le
abbrev aY:=@List.getElem?_map
abbrev aZ:=@Nat.zero_le
abbrev a8:=@Option.some.inj
abbrev a9:=@List.mem_map
abbrev bA:=@Int.toNat_of_nonneg
abbrev bB:=@List.mem_cons_self
abbrev bC:=@Heap.get?_push_size
abbrev bD:=@List.mem_cons_of_mem
abbrev bE:=@Bool.and_eq_true
abbrev bF:=@List.length_cons
abbrev bG:=@List.mem_singleton
abbrev bH:=@List.mem_of_getElem?
abbrev bI:=@List.take_succ
abbrev bJ:=@Nat.le_trans
abbrev bK:=@List.mem_append
abbrev bL:=@List.length_singleton
abbrev bM:=@List.map_map
abbrev bN:=@List.size_toArray
abbrev bP:=@Int.toNat_natCast
abbrev bQ:=@List.take_length
abbrev bR:=@List.map_cons
abbrev bS:=@List.append_nil
abbrev bT:=@Array.length_toList
abbrev bU:=@List.getElem?_eq_getElem
abbrev bV:=@List.mem_append_right
abbrev bW:=@List.any_cons
abbrev bX:=@List.all_eq_true
abbrev bY:=@List.any_eq_true
abbrev bZ:=@Int.le_trans
abbrev b7:=@Bool.eq_iff_iff
abbrev b8:=@Int.emod_nonneg
abbrev b9:=@Int.emod_lt_of_pos
abbrev cA:=@Nat.lt_or_ge
abbrev cB:=@List.not_mem_nil
abbrev cC:=@Nat.lt_irrefl
abbrev cD:=@Heap.get?_update_other
abbrev cE:=@Array.getElem?_toList
abbrev cF:=@List.getElem?_eq_some_iff
abbrev cG:=@Heap.size_push
abbrev cH:=@Nat.lt_succ_of_lt
abbrev cI:=@Array.getElem?_eq_getElem
abbrev cJ:=@List.any_eq_false
abbrev cL:=@List.length_range
abbrev cM:=@Heap.get?_update_self
abbrev cN:=@List.any_map
abbrev cQ:=@List.mem_range
abbrev cR:=@Nat.lt_succ_self
abbrev cS:=@List.length_take
abbrev cT:=@List.filterMap_append
abbrev cU:=@List.mem_filter
abbrev cV:=@List.flatten_cons
abbrev cW:=@List.map_eq_nil_iff
abbrev cX:=@List.pairwise_cons
abbrev cY:=@Bool.true_and
abbrev cZ:=@List.filterMap_cons
abbrev c5:=@Int.natCast_nonneg
abbrev c6:=@Option.isSome_iff_exists
abbrev c7:=@List.length_replicate
abbrev c8:=@List.append_assoc
abbrev c9:=@List.lookup_cons
abbrev dA:=@Nat.lt_of_le_of_lt
abbrev dB:=@Int.eq_ofNat_of_zero_le
abbrev dC:=@List.find?_cons
abbrev dD:=@List.cons_ne_nil
abbrev dE:=@List.mem_filterMap
abbrev dF:=@List.replicate_succ
abbrev dG:=@List.take_of_length_le
abbrev dH:=@List.filter_append
abbrev dI:=@Nat.add_le_add_right
abbrev dJ:=@Array.getElem?_eq_none
noncomputable abbrev Key:=Sum Int Str
noncomputable def aoC:Key->Value->Bool
 |.inl k,v=>Value.isInt k v
 |.inr x,v=>Value.isStrOf x v
noncomputable def keyH(w:World):Key->Int
 |.inl k=>hashInt k
 |.inr x=>hashStr w x
theorem abA:∀{k:Key} {v:Value},aoC k v=true->(∃i t,k=Sum.inl i/\v=Value.int i t)∨(∃x t,k=Sum.inr x/\v=Value.str x t)
 |.inl i,v,h=>by
  obtain⟨t,e⟩:=Value.isInt_shape (k:=i) (v:=v) h
  exact .inl ⟨i,t,rfl,e⟩
 |.inr x,v,h=>by
  obtain⟨t,e⟩:=Value.isStrOf_shape (x:=x) (v:=v) h
  exact .inr ⟨x,t,rfl,e⟩
theorem ayH(i:Int)(t:Tok):aoC (.inl i) (.int i t)=true:=by simp[aoC,Value.isInt]
theorem axH(x:Str)(t:Tok):aoC (.inr x) (.str x t)=true:=by simp[aoC,Value.isStrOf]
theorem aFV(a b:Int):decide ((Sum.inl a:Key)=Sum.inl b)=(a==b):=by
 by_cases e:a=b
 ·subst e;simp
 ·have h:¬(Sum.inl a:Key)=Sum.inl b:=fun q=>e (Sum.inl.inj q)
  rw[dY h]
  exact (beq_eq_false_iff_ne.mpr e).symm
theorem aD2(a b:Str):decide ((Sum.inr a:Key)=Sum.inr b)=decide (a=b):=by
 by_cases e:a=b
 ·subst e;simp
 ·have h:¬(Sum.inr a:Key)=Sum.inr b:=fun q=>e (Sum.inr.inj q)
  rw[dY h,dY e]
theorem aEJ(a:Int)(b:Str):decide ((Sum.inl a:Key)=Sum.inr b)=false:=dY (fun q=>nomatch q)
theorem aD5(a:Str)(b:Int):decide ((Sum.inr a:Key)=Sum.inl b)=false:=dY (fun q=>nomatch q)
noncomputable def acS(prog:Program)(w:World):PySem.KeyKind prog w Key where
 is:=aoC
 hash:=keyH w
 inj:=fun v a b ha hb=>by
  rcases abA ha with ⟨i,t,rfl,rfl⟩ | ⟨x,t,rfl,rfl⟩
  ·rcases abA hb with ⟨j,u,rfl,e⟩ | ⟨y,u,rfl,e⟩
   ·injection e with e1 _;rw[e1]
   ·exact nomatch e
  ·rcases abA hb with ⟨j,u,rfl,e⟩ | ⟨y,u,rfl,e⟩
   ·exact nomatch e
   ·injection e with e1 _;rw[e1]
 byValue:=fun k v h=>by
  rcases abA h with ⟨i,t,rfl,rfl⟩ | ⟨x,t,rfl,rfl⟩<;>rfl
 pyHash:=fun hv h=>by
  rcases abA hv with ⟨i,t,rfl,rfl⟩ | ⟨x,t,rfl,rfl⟩
  ·exact wpAny_pyHash_int h
  ·exact wpAny_pyHash_str h
 eqBool:=fun hu hv h=>by
  rcases abA hu with ⟨i,t,rfl,rfl⟩ | ⟨x,t,rfl,rfl⟩
  ·rcases abA hv with ⟨j,u,rfl,rfl⟩ | ⟨y,u,rfl,rfl⟩
   ·rw[aFV] at h;exact wpAny_eqBool_int h
   ·rw[aEJ] at h;exact SeqAt.EqAt.int_str i t y u _ _ _ _ h
  ·rcases abA hv with ⟨j,u,rfl,rfl⟩ | ⟨y,u,rfl,rfl⟩
   ·rw[aD5] at h;exact SeqAt.EqAt.str_int x t j u _ _ _ _ h
   ·rw[aD2] at h;exact wpAny_eqBool_str h
 «strs»:=fun k x t v h=>by
  rcases abA h with ⟨i,u,rfl,e⟩ | ⟨y,u,rfl,e⟩
  ·exact nomatch e
  ·injection e with e1 _
   subst e1
   cases v<;>rfl
theorem asJ(prog:Program)(w:World)(i:Int)(t:Tok):(acS prog w).is (.inl i) (.int i t)=true:=ayH i t
theorem atX(prog:Program)(w:World)(x:Str)(t:Tok):(acS prog w).is (.inr x) (.str x t)=true:=axH x t
inductive V where
 |non | bl (b:Bool) | int (i:Int) | str (x:Str) | byt (b:Array UInt8) | flt (b:UInt64) | ref (a:Addr) | ty (n:String)
 deriving DecidableEq
noncomputable def RelV:V->Value->Prop
 |.non,u=>u=Value.none
 |.bl b,u=>u=Value.bool b
 |.int i,u=>∃t,u=Value.int i t
 |.str x,u=>∃t,u=Value.str x t
 |.byt b,u=>∃t,u=Value.bytes b t
 |.flt b,u=>∃t,u=Value.float b t
 |.ref a,u=>u=Value.ref a
 |.ty n,u=>u=Value.type n
noncomputable abbrev Vals:List V->List Value->Prop:=Paired RelV
theorem Vals.length{xs:List V}{us:List Value}(r:Vals xs us):xs.length=us.length:=Paired.length r
theorem Vals.get:∀{xs:List V} {us:List Value} {i:Nat} {x:V},Vals xs us->xs[i]? =some x->∃u,us[i]? =some u/\RelV x u
 |_,_,_,_,.nil,e=>by simp at e
 |_,_,0,_,.cons r _,e=>by simp at e;subst e;exact⟨_,rfl,r⟩
 |_,_,i+1,x,.cons _ t,e=>by
  obtain⟨u,h1,h2⟩:=Vals.get (i:=i) (x:=x) t (by simpa using e)
  exact⟨u,by simpa using h1,h2⟩
theorem Vals.set{x:V}{u:Value}(r:RelV x u):∀{xs:List V} {us:List Value} (i:Nat),Vals xs us->Vals (xs.set i x) (us.set i u)
 |_,_,_,.nil=>.nil
 |_,_,0,.cons _ t=>.cons r t
 |_,_,i+1,.cons q t=>.cons q (Vals.set r i t)
theorem Vals.append:∀{xs ys:List V} {us ws:List Value},Vals xs us->Vals ys ws->Vals (xs++ys) (us++ws)
 |_,_,_,_,.nil,s=>s
 |_,_,_,_,.cons r t,s=>.cons r (Vals.append t s)
theorem Vals.take:∀{xs:List V} {us:List Value} (n:Nat),Vals xs us->Vals (xs.take n) (us.take n)
 |_,_,0,_=>.nil
 |_,_,_+1,.nil=>.nil
 |_,_,n+1,.cons r t=>.cons r (Vals.take n t)
theorem Vals.drop:∀{xs:List V} {us:List Value} (n:Nat),Vals xs us->Vals (xs.drop n) (us.drop n)
 |_,_,0,r=>r
 |_,_,_+1,.nil=>.nil
 |_,_,n+1,.cons _ t=>Vals.drop n t
noncomputable def RelO:Option V->Option Value->Prop
 |some v,some u=>RelV v u
 |none,none=>True
 |_,_=>False
noncomputable def KV{κ:Type}:List (κ×V)->List (κ×Value)->Prop:=Paired fun (p:κ×V) (q:κ×Value)=>p.1=q.1/\RelV p.2 q.2
noncomputable def kV:Key->V
 |.inl i=>.int i
 |.inr x=>.str x
inductive HO where
 |lst (xs:List V)
 |tup (xs:List V)
 |dK (kvs:List (Key×V)) | dT (kvs:List (List Key×V))
 |set (S:Int->Bool) (n:Nat)
 |ins (C dx:Addr) (fs:List (Str×V))
 |own (x:Addr)
 |xd (fs:List (Str×V))
 |met (f x:Addr)
 |rng (lo hi:Int)
 |frz (o:Obj) (u:HO)
 |tbl (ps:Array Value)
 |ext (φ:Heap->Prop)
noncomputable abbrev Hp:=Addr->Option HO
noncomputable def upd(H:Hp)(a:Addr)(o:HO):Hp:=fun b=>if b=a then some o else H b
theorem aaA{H:Hp}{a:Addr}{o:HO}:upd H a o a=some o:=by unfold upd;rw[if_pos rfl]
theorem aaH{H:Hp}{a b:Addr}{o:HO}(h:b≠a):upd H a o b=H b:=by unfold upd;rw[if_neg h]
theorem aaL{H:Hp}{a b:Addr}{o:HO}(h:H a=some o)(h':H b=none):a≠b:=by
 intro e;subst e;rw[h] at h';cases h'
section
variable(P:Program)(w:World)
noncomputable def ObjOk(H:Hp)(h:Heap)(a:Addr):HO->Prop
 |.lst xs=>xs.length<=sizeLine/\∃(its:List Value) (n:Nat),Vals xs its/\h.get? a=some {cls:=.type "list",data:=.seq its.toArray n}
 |.tup xs=>xs.length<=sizeLine/\∃its:List Value,Vals xs its/\IsTup h a its.toArray
 |.dK kvs=>kvs.length<=sizeLine/\(a==sysModules)=false/\∃vs,KV kvs vs/\h.DictOf (acS P w) a vs
 |.dT kvs=>kvs.length<=sizeLine/\(a==sysModules)=false/\∃xs:List (List Key×Addr×Value),
   Paired (fun (p:List Key×V) (q:List Key×Addr×Value)=>p.1=q.1/\H q.2.1=some (.tup (p.1.map kV))/\RelV p.2 q.2.2) kvs xs/\
   ∃o es ep,h.get? a=some o/\o.ExactDict/\o.data=.dict es ep/\es.toList=xs.map (entryOfKey (tupleKind (acS P w)))/\(xs.map (·.1)).Nodup
 |.set S n=>h.SetOf (intKind P w) a S n
 |.ins C dx fs=>H dx=some (.own a)/\fs.length<=1000/\dx≠a/\h.get? a=some (PySem.W.instObj C dx)/\
   ∃mA,h.Ns1 dx mA/\(∀f,RelO (fs.lookup f) (mA f))/\PySem.Within mA (fs.map (·.1))
 |.own _=>∃o,h.get? a=some o
 |.xd fs=>∃mA,h.Ns1 a mA/\∀f,RelO (fs.lookup f) (mA f)
 |.rng lo hi=>∃t u v,h.get? a=some {cls:=.type "range",data:=.fields #[.int lo t,.int hi u,.int 1 v]}
 |.frz o u=>h.get? a=some o/\ObjOk H h a u
 |.tbl ps=>h.get? a=some {cls:=.none,data:=.fields ps}
 |.met f x=>h.get? a=some (PySem.W.methodObj (.ref f) (.ref x))
 |.ext φ=>φ h/\(∃o,h.get? a=some o)/\∀h1 h2:Heap,φ h1->(∀o,h1.get? a=some o->h2.get? a=some o)->φ h2
noncomputable def HOk(H:Hp)(h:Heap):Prop:=∀a o,H a=some o->ObjOk P w H h a o
end
section
variable{P:Program}{w:World}{H H':Hp}{h h':Heap}{a:Addr}{o:HO}
theorem ObjOk.lt(x:ObjOk P w H h a o):a<h.objs.size:=by
 cases o with
 |lst xs=>obtain⟨_,_,_,_,e⟩:=x;exact aQ e
 |tup xs=>obtain⟨_,_,_,p⟩:=x;exact p.lt
 |dK kvs=>obtain⟨_,_,_,_,o,_,_,e,_⟩:=x;exact aQ e
 |dT kvs=>obtain⟨_,_,_,_,o,_,_,e,_⟩:=x;exact aQ e
 |set S n=>obtain⟨o,_,_,_,e,_⟩:=x;exact aQ e
 |ins C dx fs=>obtain⟨_,_,_,e,_⟩:=x;exact aQ e
 |own y=>obtain⟨_,e⟩:=x;exact aQ e
 |xd fs=>obtain⟨_,⟨_,_,_,e,_⟩,_⟩:=x;exact aQ e
 |rng lo hi=>obtain⟨_,_,_,e⟩:=x;exact aQ e
 |frz ob u=>obtain⟨e,_⟩:=x;exact aQ e
 |tbl ps=>exact aQ (show h.get? a=some _ from x)
 |met f y=>exact aQ (show h.get? a=some _ from x)
 |ext φ=>obtain⟨_,⟨_,e⟩,_⟩:=x;exact aQ e
theorem Paired.mapP{α β:Type}{F G:α->β->Prop}:∀{l₁:List α} {l₂:List β},Paired F l₁ l₂->(∀a b,F a b->G a b)->Paired G l₁ l₂
 |_,_,.nil,_=>.nil
 |_,_,.cons r t,f=>.cons (f _ _ r) (Paired.mapP t f)
theorem Paired.imp'{α β:Type}{F G:α->β->Prop}(f:∀a b,F a b->G a b){l₁:List α}{l₂:List β}(r:Paired F l₁ l₂):Paired G l₁ l₂:=Paired.mapP r f
theorem ObjOk.stay(x:ObjOk P w H h a o)(k:∀b u,(b=a∨H b=some (.own a))->h.get? b=some u->h'.get? b=some u)
  (ho:∀b,H b=some (.own a)->H' b=some (.own a)) (ht:∀b xs,H b=some (.tup xs)->H' b=some (.tup xs)):ObjOk P w H' h' a o:=by
 induction o with
 |lst xs=>obtain⟨z,its,n,r,e⟩:=x;exact⟨z,its,n,r,k _ _ (.inl rfl) e⟩
 |tup xs=>obtain⟨z,its,r,ob,e,c⟩:=x;exact⟨z,its,r,ob,k _ _ (.inl rfl) e,c⟩
 |dK kvs=>obtain⟨z,y,vs,r,ob,es,ep,e,c⟩:=x;exact⟨z,y,vs,r,ob,es,ep,k _ _ (.inl rfl) e,c⟩
 |dT kvs=>
  obtain⟨z,y,xs,r,ob,es,ep,e,c⟩:=x
  exact⟨z,y,xs,Paired.mapP r fun p q z=>⟨z.1,ht _ _ z.2.1,z.2.2⟩,ob,es,ep,k _ _ (.inl rfl) e,c⟩
 |set S n=>obtain⟨ob,es,ep,t,e,c⟩:=x;exact⟨ob,es,ep,t,k _ _ (.inl rfl) e,c⟩
 |ins C dx fs=>
  obtain⟨d,z,ne,e,mA,⟨od,es,ep,e2,c⟩,r⟩:=x
  exact⟨ho _ d,z,ne,k _ _ (.inl rfl) e,mA,⟨od,es,ep,k _ _ (.inr d) e2,c⟩,r⟩
 |own y=>obtain⟨ob,e⟩:=x;exact⟨ob,k _ _ (.inl rfl) e⟩
 |xd fs=>obtain⟨mA,⟨od,es,ep,e,c⟩,r⟩:=x;exact⟨mA,⟨od,es,ep,k _ _ (.inl rfl) e,c⟩,r⟩
 |rng lo hi=>obtain⟨t,u,v,e⟩:=x;exact⟨t,u,v,k _ _ (.inl rfl) e⟩
 |frz ob u ih=>obtain⟨e,q⟩:=x;exact⟨k _ _ (.inl rfl) e,ih q⟩
 |tbl ps=>
  have e:h.get? a=some {cls:=.none,data:=.fields ps}:=x
  show h'.get? a=some {cls:=.none,data:=.fields ps}
  exact k a _ (.inl rfl) e
 |met f y=>
  have e:h.get? a=some (PySem.W.methodObj (.ref f) (.ref y)):=x
  show h'.get? a=some (PySem.W.methodObj (.ref f) (.ref y))
  exact k a _ (.inl rfl) e
 |ext φ=>obtain⟨p,⟨o,e⟩,st⟩:=x;exact⟨st _ _ p fun o q=>k _ _ (.inl rfl) q,⟨o,k _ _ (.inl rfl) e⟩,st⟩
theorem HOk.lt(x:HOk P w H h)(e:H a=some o):a<h.objs.size:=(x a o e).lt
theorem HOk.fresh(x:HOk P w H h)(e:h.objs.size<=a):H a=none:=by
 cases q:H a with
 |none=>rfl
 |some u=>exact absurd (aX (x.lt q) e) (cC _)
theorem HOk.kept(x:HOk P w H h)(k:∀b u,h.get? b=some u->h'.get? b=some u):HOk P w H h':=fun a o e=>
 (x a o e).stay (fun b u _ q=>k b u q) (fun _ q=>q) fun _ _ q=>q
theorem HOk.laid(x:HOk P w H h)(k:∀b u,h.get? b=some u->h'.get? b=some u)(hp:h.objs.size<=a)(new:ObjOk P w (upd H a o) h' a o):HOk P w (upd H a o) h':=fun b u e=>by
 have hn:=x.fresh hp
 by_cases hb:b=a
 ·subst hb;rw[aaA] at e;cases e;exact new
 ·rw[aaH hb] at e
  exact (x b u e).stay (fun c v _ q=>k c v q) (fun c q=>by rw[aaH (aaL q hn)];exact q) fun c xs q=>by rw[aaH (aaL q hn)];exact q
end
noncomputable def Rd(H:Hp)(a:Addr)(u:HO):Prop:=H a=some u∨∃o,H a=some (.frz o u)
theorem Rd.ok{P:Program}{w:World}{H:Hp}{h:Heap}{a:Addr}{u:HO}(r:Rd H a u)(x:HOk P w H h):ObjOk P w H h a u:=by
 rcases r with r | ⟨o,r⟩
 ·exact x a u r
 ·obtain⟨_,q⟩:=x a _ r
  exact q
noncomputable def Mut:Option HO->Prop
 |some (.lst _)=>True
 |some (.dK _)=>True
 |some (.dT _)=>True
 |some (.set _ _)=>True
 |some (.ins _ _ _)=>True
 |some (.ext _)=>True
 |_=>False
section
variable{P:Program}{w:World}{H:Hp}{h h':Heap}{x e:Addr}{o':HO}
theorem HOk.write(ok:HOk P w H h)(mu:Mut (H x))(he:e=x∨H e=some (.own x))(k:∀b u,b≠e->h.get? b=some u->h'.get? b=some u)(heo:∃u,h'.get? e=some u)
  (new:ObjOk P w (upd H x o') h' x o'):HOk P w (upd H x o') h':=fun b u q=>by
 have nown:∀c y,H c=some (.own y)->c≠x:=fun c y r z=>by subst z;rw[r] at mu;exact mu
 have ntup:∀c xs,H c=some (.tup xs)->c≠x:=fun c xs r z=>by subst z;rw[r] at mu;exact mu
 by_cases hb:b=x
 ·subst hb;rw[aaA] at q;cases q;exact new
 ·rw[aaH hb] at q
  by_cases hbe:b=e
  ·have q':H b=some (.own x):=by
    rcases he with z | z
    ·exact absurd (hbe.trans z) hb
    ·rw[hbe];exact z
   rw[q] at q';cases q'
   obtain⟨v,hv⟩:=heo
   exact⟨v,by rw[hbe];exact hv⟩
  ·refine (ok b u q).stay (fun c v hc r=>k c v ?_ r) (fun c r=>by rw[aaH (nown c b r)];exact r) fun c xs r=>by rw[aaH (ntup c xs r)];exact r
   rcases hc with rfl | hc
   ·exact hbe
   ·rintro rfl
    rcases he with z | z
    ·exact nown c b hc z
    ·rw[hc] at z;cases z;exact hb rfl
end
structure Un(fs ex:List Addr)(H H':Hp)(h h':Heap):Prop where
 keep:∀b o,h.get? b=some o->H b=none->b∉fs->b∉ex->h'.get? b=some o
 slot:∀b o,h.get? b=some o->H b=none->b∈fs->b∉ex->∃sl,h'.get? b=some {o with slots:=sl}
 free:∀b o,h.get? b=some o->H b=none->b∉ex->H' b=none
 there:∀b o,h.get? b=some o->b∉ex->∃o',h'.get? b=some o'
 tups:∀b xs,H b=some (.tup xs)->H' b=some (.tup xs)
 frzs:∀b o u,H b=some (.frz o u)->H' b=some (.frz o u)
 tbls:∀b ps,H b=some (.tbl ps)->∃more,H' b=some (.tbl (ps++more))
section
variable{fs fs' ex ex':List Addr}{H H1 H2:Hp}{h h1 h2 h':Heap}{a x e:Addr}{o:HO}
theorem Un.any(u:Un fs ex H H1 h h1){b:Addr}{ob:Obj}(q:h.get? b=some ob)(n:H b=none)(hx:b∉ex):∃sl,h1.get? b=some {ob with slots:=sl}:=by
 by_cases hb:b∈fs
 ·exact u.slot b ob q n hb hx
 ·exact⟨ob.slots,u.keep b ob q n hb hx⟩
theorem Un.trans(a:Un fs ex H H1 h h1)(b:Un fs ex H1 H2 h1 h2):Un fs ex H H2 h h2 where
 keep:=fun c ob q n hc hx=>b.keep c ob (a.keep c ob q n hc hx) (a.free c ob q n hx) hc hx
 slot:=fun c ob q n hc hx=>by
  obtain⟨sl,e1⟩:=a.slot c ob q n hc hx
  obtain⟨sl',e2⟩:=b.slot c _ e1 (a.free c ob q n hx) hc hx
  exact⟨sl',e2⟩
 free:=fun c ob q n hx=>by
  obtain⟨o',e1⟩:=a.there c ob q hx
  exact b.free c o' e1 (a.free c ob q n hx) hx
 there:=fun c ob q hx=>by
  obtain⟨o',e1⟩:=a.there c ob q hx
  exact b.there c o' e1 hx
 tups:=fun c xs q=>b.tups c xs (a.tups c xs q)
 frzs:=fun c ob xs q=>b.frzs c ob xs (a.frzs c ob xs q)
 tbls:=fun c ps q=>by
  obtain⟨m1,e1⟩:=a.tbls c ps q
  obtain⟨m2,e2⟩:=b.tbls c _ e1
  exact⟨m1++m2,by rw[e2,Array.append_assoc]⟩
theorem Un.kept(k:∀b u,h.get? b=some u->h'.get? b=some u):Un fs ex H H h h':=
 ⟨fun b ob q _ _ _=>k b ob q,fun b ob q _ _ _=>⟨ob.slots,k b ob q⟩,fun _ _ _ n _=>n,fun b ob q _=>⟨ob,k b ob q⟩,fun _ _ q=>q,fun _ _ _ q=>q,fun _ ps q=>⟨#[],by rw[q];simp⟩⟩
theorem Un.refl:Un fs ex H H h h:=Un.kept fun _ _ q=>q
theorem Un.laid(k:∀b u,h.get? b=some u->h'.get? b=some u)(hp:h.objs.size<=a)(hn:H a=none):Un fs ex H (upd H a o) h h' where
 keep:=fun b u q _ _ _=>k b u q
 slot:=fun b u q _ _ _=>⟨u.slots,k b u q⟩
 free:=fun b u q n _=>by rw[aaH (aV (aX (aQ q) hp))];exact n
 there:=fun b u q _=>⟨u,k b u q⟩
 tups:=fun b xs q=>by rw[aaH (aaL q hn)];exact q
 frzs:=fun b u xs q=>by rw[aaH (aaL q hn)];exact q
 tbls:=fun b ps q=>⟨#[],by rw[aaH (aaL q hn),q];simp⟩
theorem Un.write(mu:Mut (H x))(he:e=x∨H e=some (.own x))(k:∀b u,b≠e->h.get? b=some u->h'.get? b=some u)(heo:∃u,h'.get? e=some u):Un fs ex H (upd H x o) h h':=by
 have hx:∀b,H b=none->b≠x:=fun b n z=>by subst z;rw[n] at mu;exact mu
 have hb:∀b,H b=none->b≠e:=fun b n z=>by
  subst z
  rcases he with r | r
  ·exact hx b n r
  ·rw[n] at r;cases r
 have hm:∀b u,H b=some u->¬Mut (some u)->b≠x:=fun b u q nm z=>by subst z;rw[q] at mu;exact nm mu
 refine⟨fun b u q n _ _=>k b u (hb b n) q,fun b u q n _ _=>⟨u.slots,k b u (hb b n) q⟩,fun b u q n _=>by rw[aaH (hx b n)];exact n,fun b u q _=>?_,
  fun b xs q=>by rw[aaH (hm b _ q fun z=>z)];exact q,fun b u xs q=>by rw[aaH (hm b _ q fun z=>z)];exact q,fun b ps q=>⟨#[],by rw[aaH (hm b _ q fun z=>z),q];simp⟩⟩
 by_cases hbe:b=e
 ·subst hbe;exact heo
 ·exact⟨u,k b u hbe q⟩
end
noncomputable def trk(h:Heap)(H:Hp):List Addr:=(List.range h.objs.size).filter fun a=>(H a).isSome
noncomputable def aqG(h:Heap)(H:Hp):Heap:=PySem.W.hideAll h (trk h H)
theorem ayG(h:Heap)(H:Hp):(aqG h H).objs.size=h.objs.size:=PySem.W.hideAll_size _ _
theorem aAG{h:Heap}{H:Hp}{b:Addr}{o:Obj}(e:h.get? b=some o)(n:H b=none):(aqG h H).get? b=some o:=
 PySem.W.hideAll_get _ e fun hm=>by
  have q:(H b).isSome=true:=(cU.mp hm).2
  rw[n] at q;simp at q
theorem aCQ{h:Heap}{H:Hp}{b:Addr}{o:Obj}(e:(aqG h H).get? b=some o):h.get? b=some o/\H b=none:=by
 have e':h.get? b=some o:=PySem.W.of_hideAll (trk h H) e
 refine⟨e',?_⟩
 cases q:H b with
 |none=>rfl
 |some x=>
  have hm:b∈trk h H:=cU.mpr ⟨cQ.mpr (aQ e'),by simp[q]⟩
  have z:(aqG h H).get? b=none:=PySem.W.hideAll_none (trk h H) hm
  rw[z] at e;cases e
noncomputable def aBQ(g h:Heap)(L:Addr):List (Addr×Obj):=(List.range h.objs.size).filterMap fun a=>if a=L∨(g.get? a).isSome=true then none else (h.get? a).map fun o=>(a,o)
noncomputable def rest(g h:Heap)(L d:Addr):List (Addr×Obj):=(aBQ g h L).filter fun p=>decide (p.1≠d)
structure Mod(K:FG)(mg:Str->Option Value)(base:Heap):Prop where
 kin:K.In base
 glob:base.Ns mainGlobals mg
 blt:∃mb,base.Ns builtinsNs mb/\∀x:Str,x≠"__name__"->mb x=bootBuiltins x
 nolimit:base.NoLimit
structure Cx where
 prog:Program
 w:World
 K:FG
 mg:Str->Option Value
 base:Heap
 A:Around
 N:List Str
 s₀:Shared
 H₀:Hp
 env:Env
 outer:List Env
 stack:List Env
 ex:List Addr
 fn:Str->Bool
 calm:Bool
 pn:List (Addr×Obj)
 xe:Value->Shared->Prop
noncomputable def frs(l:List Env):List Addr:=l.filterMap (·.frame)
noncomputable abbrev Cx.fs(X:Cx):List Addr:=frs X.outer
noncomputable def Vis(sc:Scope)(x:Str):Prop:=sc.names.lookup x=some .local∨sc.names.lookup x=some .cell∨sc.names.lookup x=some .free
noncomputable def Loc(sc:Scope)(x:Str):Prop:=sc.names.lookup x=some .local∨sc.names.lookup x=some .cell
noncomputable def Look(env:Env)(h:Heap)(m:Str->Option Value)(x:Str)(u:Value):Prop:=
 (env.kindOf x=some .local/\m x=some u)∨((env.kindOf x=some .cell∨env.kindOf x=some .free)/\∃c,env.cells.lookup x=some c/\h.IsCell c (some u))
structure Cx.Ok(X:Cx):Prop where
 mod:Mod X.K X.mg X.base
 kind:X.env.scope.kind=.function
 glob:X.env.globals=mainGlobals
 blt:X.env.builtins=builtinsNs
 above:X.s₀.heap.objs.size<=X.env.locals
 inj:∀x y c,X.env.cells.lookup x=some c->X.env.cells.lookup y=some c->x=y
 has:∀x,(X.env.kindOf x=some .cell∨X.env.kindOf x=some .free)->∃c,X.env.cells.lookup x=some c
 cab:∀x c,X.fn x=true->X.env.cells.lookup x=some c->X.s₀.heap.objs.size<=c
 hd:X.calm=true->X.A.handled=none
 frames:X.A.frames=some X.stack
 stk:X.stack=X.outer∨(X.stack=X.env::X.outer/\X.env.frame=some X.env.locals)
 exf:∀b∈X.ex,b≠X.env.locals/\∀x c,X.env.cells.lookup x=some c->c≠b
 bs:∀b o,X.base.get? b=some o->X.s₀.heap.get? b=some o/\X.H₀ b=none
 bsz:X.base.objs.size<=X.s₀.heap.objs.size
 noex:∀b o,X.base.get? b=some o->b∉X.ex
 exfs:∀b∈X.ex,b∉X.fs
 funs:X.s₀.heap.FunFrames X.base X.outer
 frf:∀b∈X.fs,X.H₀ b=none
structure Inv(X:Cx)(pins:List (Addr×Obj))(σ:List (Option V))(H:Hp)(s:Shared):Prop where
 ok:X.Ok
 os:s.os=X.s₀.os
 bare:AllBare s.gens
 base:Un X.fs X.ex X.H₀ H X.s₀.heap s.heap
 loc:∃m,s.heap.Ns X.env.locals m/\∀(i:Nat) (x:Str) (v:V),X.N[i]? =some x->σ[i]? =some (some v)->Vis X.env.scope x->∃u,RelV v u/\Look X.env s.heap m x u
 cell:∀x c,X.env.cells.lookup x=some c->∃v,s.heap.IsCell c v
 free:H X.env.locals=none
 freeC:∀x c,X.env.cells.lookup x=some c->H c=none
 pin:∀p∈X.pn++pins,s.heap.get? p.1=some p.2/\H p.1=none/\p.1≠X.env.locals/\p.1∉X.fs/\∀v,p.2.data≠ .cell v
 hok:HOk X.prog X.w H s.heap
 len:σ.length=X.N.length
section
variable{X:Cx}{pins:List (Addr×Obj)}{σ:List (Option V)}{H H':Hp}{s:Shared}{h':Heap}
theorem Cx.Ok.nofr(ok:X.Ok){b:Addr}{o:Obj}(e:X.base.get? b=some o):b∉X.fs:=fun hb=>by
 have:=(ok.funs.mem hb).1
 rw[e] at this;cases this
theorem Inv.bs(I:Inv X pins σ H s):∀b o,X.base.get? b=some o->s.heap.get? b=some o/\H b=none:=fun b o e=>
 ⟨I.base.keep b o (I.ok.bs b o e).1 (I.ok.bs b o e).2 (I.ok.nofr e) (I.ok.noex b o e),I.base.free b o (I.ok.bs b o e).1 (I.ok.bs b o e).2 (I.ok.noex b o e)⟩
theorem Inv.bk(I:Inv X pins σ H s):∀b o,X.base.get? b=some o->s.heap.get? b=some o:=fun b o e=>(I.bs b o e).1
theorem Inv.mod(I:Inv X pins σ H s):Mod X.K X.mg X.base:=I.ok.mod
theorem Inv.kIn(I:Inv X pins σ H s):X.K.In s.heap:=I.ok.mod.kin.keeps I.bk
theorem Inv.nolimit(I:Inv X pins σ H s):s.heap.NoLimit:=I.ok.mod.nolimit.keeps I.bk
theorem Inv.lt(I:Inv X pins σ H s):X.env.locals<s.heap.objs.size:=let ⟨_,hn,_⟩:=I.loc;hn.lt
theorem Inv.sz(I:Inv X pins σ H s):X.s₀.heap.objs.size<=s.heap.objs.size:=bJ I.ok.above (Nat.le_of_lt I.lt)
theorem Inv.nofs(I:Inv X pins σ H s){a:Addr}(h:s.heap.objs.size<=a):a∉X.fs:=fun hb=>by
 obtain⟨_,o,ho,_⟩:=I.ok.funs.mem hb
 exact absurd (aX (aQ ho) (bJ I.sz h)) (cC _)
theorem Inv.cne(I:Inv X pins σ H s):∀x c,X.env.cells.lookup x=some c->c≠X.env.locals:=fun x c e z=>by
 obtain⟨v,o,ho,hd⟩:=I.cell x c e
 obtain⟨m,⟨o',es,ep,ho',hd',_⟩,_⟩:=I.loc
 rw[z,ho'] at ho;cases ho;rw[hd'] at hd;cases hd
theorem Inv.funs(I:Inv X pins σ H s):s.heap.FunFrames X.base X.outer:=by
 have all:∀(l:List Env),(∀b∈frs l,b∈X.fs)->X.s₀.heap.FunFrames X.base l->s.heap.FunFrames X.base l:=by
  intro l
  induction l with
  |nil=>intro _ _;trivial
  |cons env r ih=>
   intro hs hl
   obtain⟨hk,⟨L,o,hf,hn,ho,hd⟩,hr⟩:=hl
   have hL:L∈X.fs:=hs L (by unfold frs;rw[cZ,hf];exact bB)
   obtain⟨sl,e⟩:=I.base.slot L o ho (I.ok.frf L hL) hL fun z=>I.ok.exfs L z hL
   exact⟨hk,⟨L,_,hf,hn,e,hd⟩,ih (fun b hb=>hs b (by unfold frs;rw[cZ,hf];exact bD _ hb)) hr⟩
 exact all X.outer (fun _ hb=>hb) I.ok.funs
theorem Inv.stack(I:Inv X pins σ H s):s.heap.FunFrames X.base X.stack:=by
 rcases I.ok.stk with e | ⟨e,hf⟩
 ·rw[e];exact I.funs
 ·rw[e]
  obtain⟨m,hn,_⟩:=I.loc
  refine .cons (by rw[I.ok.kind];decide) hf hn ?_ I.funs
  exact Heap.get?_none_of_le (bJ I.ok.bsz I.ok.above)
theorem Inv.stkSub(I:Inv X pins σ H s):∀b∈frs X.stack,b∈X.env.locals::X.fs:=fun b hb=>by
 rcases I.ok.stk with e | ⟨e,hf⟩
 ·rw[e] at hb;exact bD _ hb
 ·rw[e] at hb
  unfold frs at hb
  rw[cZ,hf] at hb
  exact hb
theorem Inv.stkFree(I:Inv X pins σ H s):∀b∈frs X.stack,H b=none:=fun b hb=>by
 rcases aR.mp (I.stkSub b hb) with e | hb
 ·rw[e];exact I.free
 ·obtain⟨_,o,ho,_⟩:=I.ok.funs.mem hb
  exact I.base.free b o ho (I.ok.frf b hb) fun z=>I.ok.exfs b z hb
theorem Inv.step{g':Array GenState}{t':Nat}{d':Drawn}{ch:List Addr}(I:Inv X pins σ H s)
  (hch:∀b∈ch,(b∈X.ex∨X.s₀.heap.objs.size<=b)/\b≠X.env.locals/\(∀x c,X.env.cells.lookup x=some c->c≠b)/\∀p∈X.pn++pins,p.1≠b)
  (keep:∀b o,b≠X.env.locals->b∉X.fs->b∉ch->s.heap.get? b=some o->H b=none->h'.get? b=some o)
  (slot:∀b o,b≠X.env.locals->b∈X.fs->b∉ch->s.heap.get? b=some o->H b=none->∃sl,h'.get? b=some {o with slots:=sl}) (free:∀b o,b∉ch->s.heap.get? b=some o->H b=none->H' b=none)
  (there:∀b o,b∉ch->s.heap.get? b=some o->∃o',h'.get? b=some o')
  (tups:∀b xs,H b=some (.tup xs)->H' b=some (.tup xs)) (frzs:∀b o u,H b=some (.frz o u)->H' b=some (.frz o u)) (tbls:∀b ps,H b=some (.tbl ps)->∃more,H' b=some (.tbl (ps++more)))
  (ns:∀m,s.heap.Ns X.env.locals m->h'.Ns X.env.locals m) (hok:HOk X.prog X.w H' h') (hg:AllBare g'):
  Inv X pins σ H' {s with heap:=h',gens:=g',drawn:=d',toks:=t'}:=by
 have neL:∀b o,X.s₀.heap.get? b=some o->b≠X.env.locals:=fun b o e=>aV (aX (aQ e) I.ok.above)
 have neC:∀b o,X.s₀.heap.get? b=some o->b∉X.ex->b∉ch:=fun b o e hx hb=>by
  rcases (hch b hb).1 with z | z
  ·exact hx z
  ·exact absurd (aX (aQ e) z) (cC _)
 have cellK:∀x c,X.env.cells.lookup x=some c->∀v,s.heap.IsCell c v->h'.IsCell c v:=fun x c e v ⟨o,ho,hd⟩=>by
  have nch:c∉ch:=fun z=>(hch c z).2.2.1 x c e rfl
  by_cases hc:c∈X.fs
  ·obtain⟨sl,q⟩:=slot c o (I.cne x c e) hc nch ho (I.freeC x c e)
   exact⟨_,q,hd⟩
  ·exact⟨o,keep c o (I.cne x c e) hc nch ho (I.freeC x c e),hd⟩
 refine⟨I.ok,I.os,hg,⟨fun b o e n hb hx=>?_,fun b o e n hb hx=>?_,fun b o e n hx=>?_,fun b o e hx=>?_,fun b xs e=>tups b xs (I.base.tups b xs e),fun b o xs e=>frzs b o xs (I.base.frzs b o xs e),fun b ps e=>?_⟩,?_,fun x c e=>?_,?_,fun x c e=>?_,fun p hp=>?_,hok,I.len⟩
 ·exact keep b o (neL b o e) hb (neC b o e hx) (I.base.keep b o e n hb hx) (I.base.free b o e n hx)
 ·obtain⟨sl,e1⟩:=I.base.slot b o e n hb hx
  obtain⟨sl',e2⟩:=slot b _ (neL b o e) hb (neC b o e hx) e1 (I.base.free b o e n hx)
  exact⟨sl',e2⟩
 ·obtain⟨o',e1⟩:=I.base.there b o e hx
  exact free b o' (neC b o e hx) e1 (I.base.free b o e n hx)
 ·obtain⟨o',e1⟩:=I.base.there b o e hx
  exact there b o' (neC b o e hx) e1
 ·obtain⟨m1,e1⟩:=I.base.tbls b ps e
  obtain⟨m2,e2⟩:=tbls b _ e1
  exact⟨m1++m2,by rw[e2,Array.append_assoc]⟩
 ·obtain⟨m,hn,hl⟩:=I.loc
  refine⟨m,ns m hn,fun i x v e1 e2 e3=>?_⟩
  obtain⟨u,r,l⟩:=hl i x v e1 e2 e3
  refine⟨u,r,?_⟩
  rcases l with l | ⟨k,c,e,z⟩
  ·exact .inl l
  ·exact .inr ⟨k,c,e,cellK x c e _ z⟩
 ·obtain⟨v,z⟩:=I.cell x c e
  exact⟨v,cellK x c e v z⟩
 ·obtain⟨m,⟨o,_,_,ho,_⟩,_⟩:=I.loc
  exact free _ o (fun z=>(hch _ z).2.1 rfl) ho I.free
 ·obtain⟨v,o,ho,hd⟩:=I.cell x c e
  exact free c o (fun z=>(hch c z).2.2.1 x c e rfl) ho (I.freeC x c e)
 ·obtain⟨e,n,ne,nf,d⟩:=I.pin p hp
  have nch:p.1∉ch:=fun z=>(hch p.1 z).2.2.2 p hp rfl
  exact⟨keep p.1 p.2 ne nf nch e n,free p.1 p.2 nch e n,ne,nf,d⟩
theorem Inv.un{t':Nat}(I:Inv X pins σ H s)(u:Un X.fs [] H H' s.heap h')(hok:HOk X.prog X.w H' h'):Inv X pins σ H' {s with heap:=h',toks:=t'}:=by
 obtain⟨m,⟨o,es,ep,ho,r⟩,_⟩:=id I.loc
 obtain⟨sl,hL⟩:=u.any ho I.free (by simp)
 exact I.step (g':=s.gens) (d':=s.drawn) (ch:=[]) (fun _ z=>nomatch z) (fun b o _ hb _ e n=>u.keep b o e n hb (by simp)) (fun b o _ hb _ e n=>u.slot b o e n hb (by simp)) (fun b o _ e n=>u.free b o e n (by simp)) (fun b o _ e=>u.there b o e (by simp)) u.tups u.frzs u.tbls (fun m' hm=>by
  obtain⟨o',es',ep',ho',r'⟩:=hm
  rw[ho] at ho';cases ho'
  exact⟨_,es',ep',hL,r'⟩) hok I.bare
theorem Inv.call{g':Array GenState}{t':Nat}{d':Drawn}{ch:List Addr}(I:Inv X pins σ H s)(u:Un (frs X.stack) ch H H' s.heap h')(hok:HOk X.prog X.w H' h')(hg:AllBare g')
  (hch:∀b∈ch,(b∈X.ex∨X.s₀.heap.objs.size<=b)/\b≠X.env.locals/\(∀x c,X.env.cells.lookup x=some c->c≠b)/\∀p∈X.pn++pins,p.1≠b):
  Inv X pins σ H' {s with heap:=h',gens:=g',drawn:=d',toks:=t'}:=by
 obtain⟨m,⟨o,es,ep,ho,r⟩,_⟩:=id I.loc
 obtain⟨sl,hL⟩:=u.any ho I.free fun z=>(hch _ z).2.1 rfl
 exact I.step (ch:=ch) hch (fun b o hL hb hc e n=>u.keep b o e n (fun z=>(aR.mp (I.stkSub b z)).elim hL hb) hc) (fun b o _ _ hc e n=>u.any e n hc) (fun b o hc e n=>u.free b o e n hc) (fun b o hc e=>u.there b o e hc) u.tups u.frzs u.tbls (fun m' hm=>by
  obtain⟨o',es',ep',ho',r'⟩:=hm
  rw[ho] at ho';cases ho'
  exact⟨_,es',ep',hL,r'⟩) hok hg
theorem Inv.turned{t':Nat}{it:Addr}(I:Inv X pins σ H s)(k:∀b o,b≠it->s.heap.get? b=some o->h'.get? b=some o)(hn:H it=none)(hL:it≠X.env.locals)
  (h1:it∈X.ex∨X.s₀.heap.objs.size<=it) (h2:∀x c,X.env.cells.lookup x=some c->c≠it) (h3:∀p∈X.pn++pins,p.1≠it):Inv X pins σ H {s with heap:=h',toks:=t'}:=by
 have nit:∀b u,H b=some u->b≠it:=fun b u e z=>by rw[z,hn] at e;cases e
 refine I.step (g':=s.gens) (d':=s.drawn) (ch:=[it]) (fun b hb=>?_) (fun b o _ _ hc e _=>k b o (fun z=>hc (by simp[z])) e) (fun b o _ _ hc e _=>⟨o.slots,k b o (fun z=>hc (by simp[z])) e⟩) (fun _ _ _ _ n=>n)
  (fun b o hc e=>⟨o,k b o (fun z=>hc (by simp[z])) e⟩) (fun _ _ e=>e) (fun _ _ _ e=>e) (fun b ps e=>⟨#[],by rw[e];simp⟩) (fun m hm=>?_) (fun b u e=>?_) I.bare
 ·have e:b=it:=by simpa using hb
  subst e
  exact⟨h1,hL,h2,h3⟩
 ·obtain⟨o,es,ep,ho,r⟩:=hm
  exact⟨o,es,ep,k _ o (Ne.symm hL) ho,r⟩
 ·refine (I.hok b u e).stay (fun c v hc q=>k c v ?_ q) (fun _ q=>q) fun _ _ q=>q
  rcases hc with z | z
  ·rw[z];exact nit b u e
  ·exact nit c _ z
theorem Inv.tok(I:Inv X pins σ H s)(t:Nat):Inv X pins σ H {s with toks:=t}:=I.un (h':=s.heap) (t':=t) Un.refl I.hok
theorem Inv.kept{t':Nat}(I:Inv X pins σ H s)(k:∀b u,s.heap.get? b=some u->h'.get? b=some u):Inv X pins σ H {s with heap:=h',toks:=t'}:=I.un (Un.kept k) (I.hok.kept k)
theorem Inv.laid{a:Addr}{o:HO}{t':Nat}(I:Inv X pins σ H s)(k:∀b u,s.heap.get? b=some u->h'.get? b=some u)(hp:s.heap.objs.size<=a)(new:ObjOk X.prog X.w (upd H a o) h' a o):
  Inv X pins σ (upd H a o) {s with heap:=h',toks:=t'}:=I.un (Un.laid k hp (I.hok.fresh hp)) (I.hok.laid k hp new)
theorem Inv.write{x e:Addr}{o:HO}{t':Nat}(I:Inv X pins σ H s)(mu:Mut (H x))(he:e=x∨H e=some (.own x))(k:∀b u,b≠e->s.heap.get? b=some u->h'.get? b=some u)(heo:∃u,h'.get? e=some u)
  (new:ObjOk X.prog X.w (upd H x o) h' x o):Inv X pins σ (upd H x o) {s with heap:=h',toks:=t'}:=I.un (Un.write mu he k heo) (I.hok.write mu he k heo new)
theorem Inv.pins_of{pins':List (Addr×Obj)}(I:Inv X pins σ H s)(h:∀p∈pins',s.heap.get? p.1=some p.2/\H p.1=none/\p.1≠X.env.locals/\p.1∉X.fs/\∀v,p.2.data≠ .cell v):Inv X pins' σ H s:=
 ⟨I.ok,I.os,I.bare,I.base,I.loc,I.cell,I.free,I.freeC,fun p hp=>(bK.mp hp).elim (fun z=>I.pin p (List.mem_append_left _ z)) (h p),I.hok,I.len⟩
theorem atD{N:List Str}(hN:N.Nodup){i j:Nat}{x:Str}(a:N[i]? =some x)(b:N[j]? =some x):i=j:=by
 obtain⟨h1,e1⟩:=cF.mp a
 obtain⟨h2,e2⟩:=cF.mp b
 exact (List.getElem_inj hN).mp (e1.trans e2.symm)
theorem an1{M:Model}{A:Around}{E:Value->Shared->Prop}{i:Nat}{x:Str}{v:V}{u:Value}{Q:Unit->Shared->Prop}(I:Inv X pins σ H s)(hN:X.N.Nodup)(hi:X.N[i]? =some x)(hx:Loc X.env.scope x)(r:RelV v u)
  (h:∀s',Inv X pins (σ.set i (some v)) H s'->(∃a,Heap.SameBut a s.heap s'.heap/\(a=X.env.locals∨X.env.cells.lookup x=some a))->Q () s') (hf:X.fn x=true∨X.env.scope.names.lookup x=some .local:=by first | exact .inl rfl | exact .inr rfl | assumption):wpAny M A (storeName X.env x u) Q E s:=by
 obtain⟨m,hn,hl⟩:=id I.loc
 have hcls:(X.env.scope.kind== .class||(X.env.scope.kind== .module&&X.env.locals !=X.env.globals))=false:=by rw[I.ok.kind];rfl
 have hiσ:i<σ.length:=by rw[I.len];exact (cF.mp hi).1
 have cne:=I.cne
 have tracked:∀{a:Addr} {h':Heap},(∃o,s.heap.get? a=some o/\H a=none)->Heap.SameBut a s.heap h'->HOk X.prog X.w H h':=fun {a h'} ha hs b ob e=>by
  obtain⟨_,_,hfree⟩:=ha
  refine (I.hok b ob e).stay (fun c w' hc q=>(hs.2 c ?_).trans q) (fun _ q=>q) fun _ _ q=>q
  rintro rfl
  rcases hc with rfl | hc
  ·rw[hfree] at e;cases e
  ·rw[hfree] at hc;cases hc
 rcases hx with hk | hk
 ·refine wpAny_storeName_local hk hn (fun h' hn' hs=>?_) hcls
  obtain⟨oL,_,_,hoL,_⟩:=id hn
  refine h _ ⟨I.ok,I.os,I.bare,⟨fun b o e n hb hx=>?_,fun b o e n hb hx=>?_,I.base.free,fun b o e hx=>?_,I.base.tups,I.base.frzs,I.base.tbls⟩,⟨_,hn',fun j y v' e1 e2 e3=>?_⟩,fun y c e=>?_,I.free,I.freeC,fun p hp=>?_,tracked ⟨oL,hoL,I.free⟩ hs,by simpa using I.len⟩ ⟨_,hs,.inl rfl⟩
  ·exact (hs.2 b (aV (aX (aQ e) I.ok.above))).trans (I.base.keep b o e n hb hx)
  ·obtain⟨sl,e1⟩:=I.base.slot b o e n hb hx
   exact⟨sl,(hs.2 b (aV (aX (aQ e) I.ok.above))).trans e1⟩
  ·obtain⟨o',e1⟩:=I.base.there b o e hx
   exact⟨o',(hs.2 b (aV (aX (aQ e) I.ok.above))).trans e1⟩
  ·by_cases hj:j=i
   ·subst hj
    rw[hi] at e1;cases e1
    rw[List.getElem?_set_self hiσ] at e2
    cases e2
    exact⟨u,r,.inl ⟨hk,by simp⟩⟩
   ·rw[List.getElem?_set_ne (Ne.symm hj)] at e2
    obtain⟨u',r',q⟩:=hl j y v' e1 e2 e3
    refine⟨u',r',?_⟩
    rcases q with ⟨k,e⟩ | ⟨k,c,e,z⟩
    ·refine .inl ⟨k,?_⟩
     have:y≠x:=fun e=>hj (atD hN e1 (e▸hi))
     simp[this,e]
    ·exact .inr ⟨k,c,e,z.sameBut hs (cne y c e)⟩
  ·obtain⟨w',z⟩:=I.cell y c e
   exact⟨w',z.sameBut hs (cne y c e)⟩
  ·obtain⟨e,n,ne,nf,d⟩:=I.pin p hp
   exact⟨(hs.2 p.1 ne).trans e,n,ne,nf,d⟩
 ·have hfn:X.fn x=true:=by
   rcases hf with z | z
   ·exact z
   ·rw[z] at hk;cases hk
  obtain⟨c,hc⟩:=I.ok.has x (.inl hk)
  obtain⟨w',z⟩:=I.cell x c hc
  refine wpAny_storeName_cell I.ok.kind hk hc z (fun h' hc' hs=>?_)
  obtain⟨oc,hoc,hocd⟩:=id z
  refine h {s with heap:=h'} ⟨I.ok,I.os,I.bare,⟨fun b o e n hb hx=>?_,fun b o e n hb hx=>?_,I.base.free,fun b o e hx=>?_,I.base.tups,I.base.frzs,I.base.tbls⟩,⟨m,hn.sameBut hs (Ne.symm (cne x c hc)),fun j y v' e1 e2 e3=>?_⟩,fun y c' e=>?_,I.free,I.freeC,fun p hp=>?_,tracked ⟨oc,hoc,I.freeC x c hc⟩ hs,by simpa using I.len⟩ ⟨c,hs,.inr hc⟩
  ·exact (hs.2 b (aV (aX (aQ e) (I.ok.cab x c hfn hc)))).trans (I.base.keep b o e n hb hx)
  ·obtain⟨sl,e1⟩:=I.base.slot b o e n hb hx
   exact⟨sl,(hs.2 b (aV (aX (aQ e) (I.ok.cab x c hfn hc)))).trans e1⟩
  ·obtain⟨o',e1⟩:=I.base.there b o e hx
   exact⟨o',(hs.2 b (aV (aX (aQ e) (I.ok.cab x c hfn hc)))).trans e1⟩
  ·by_cases hj:j=i
   ·subst hj
    rw[hi] at e1;cases e1
    rw[List.getElem?_set_self hiσ] at e2
    cases e2
    exact⟨u,r,.inr ⟨.inl hk,c,hc,hc'⟩⟩
   ·rw[List.getElem?_set_ne (Ne.symm hj)] at e2
    obtain⟨u',r',q⟩:=hl j y v' e1 e2 e3
    refine⟨u',r',?_⟩
    rcases q with q | ⟨k,c',e,z'⟩
    ·exact .inl q
    ·refine .inr ⟨k,c',e,z'.sameBut hs ?_⟩
     rintro rfl
     exact hj (atD hN e1 (I.ok.inj _ _ _ e hc▸hi))
  ·by_cases hcc:c'=c
   ·subst hcc;exact⟨_,hc'⟩
   ·obtain⟨w2,z2⟩:=I.cell y c' e
    exact⟨w2,z2.sameBut hs hcc⟩
  ·obtain⟨e,n,ne,nf,d⟩:=I.pin p hp
   refine⟨(hs.2 p.1 ?_).trans e,n,ne,nf,d⟩
   intro q
   rw[q,hoc] at e
   have q':oc=p.2:=a8 e
   exact d w' (by rw[←q'];exact hocd)
theorem amJ{M:Model}{A:Around}{E:Value->Shared->Prop}{i:Nat}{x:Str}{v:V}{u:Value}{Q:Unit->Shared->Prop}(I:Inv X pins σ H s)(hN:X.N.Nodup)(hi:X.N[i]? =some x)(hx:Loc X.env.scope x)(r:RelV v u)
  (h:∀s',Inv X pins (σ.set i (some v)) H s'->Q () s') (hf:X.fn x=true∨X.env.scope.names.lookup x=some .local:=by first | exact .inl rfl | exact .inr rfl | assumption):wpAny M A (storeName X.env x u) Q E s:=
 an1 I hN hi hx r (fun s' I' _=>h s' I') hf
theorem Inv.call'{s':Shared}{ch:List Addr}(I:Inv X pins σ H s)(ho:s'.os=s.os)(u:Un (frs X.stack) ch H H' s.heap s'.heap)(hok:HOk X.prog X.w H' s'.heap)(hg:AllBare s'.gens)
  (hch:∀b∈ch,(b∈X.ex∨X.s₀.heap.objs.size<=b)/\b≠X.env.locals/\(∀x c,X.env.cells.lookup x=some c->c≠b)/\∀p∈X.pn++pins,p.1≠b):Inv X pins σ H' s':=by
 obtain⟨h',g',d',t',o'⟩:=s'
 have e:o'=s.os:=ho
 subst e
 exact I.call (g':=g') (t':=t') (d':=d') u hok hg hch
end
noncomputable abbrev XK:=Value->Option Addr->Hp->Prop
noncomputable abbrev St:=List (Option V)
noncomputable abbrev VK:=V->Hp->Prop
noncomputable abbrev TE:=St->Hp->VK->Prop
noncomputable abbrev TT:=St->Hp->(Bool->Hp->Prop)->Prop
noncomputable abbrev TA:=St->Hp->(List V->Hp->Prop)->Prop
structure Ends where
 nx:St->Hp->Prop
 rt:VK
 bk:St->Hp->Prop:=fun _ _=>False
 ct:St->Hp->Prop:=fun _ _=>False
noncomputable abbrev TS:=Ends->St->Hp->Prop
noncomputable def EP(X:Cx)(pins:List (Addr×Obj))(σ:St)(Q:VK)(u:Value)(s':Shared):Prop:=∃v H',Inv X pins σ H' s'/\RelV v u/\Q v H'
noncomputable def TP(X:Cx)(pins:List (Addr×Obj))(σ:St)(Q:Bool->Hp->Prop)(b:Bool)(s':Shared):Prop:=∃H',Inv X pins σ H' s'/\Q b H'
noncomputable def AP(X:Cx)(pins:List (Addr×Obj))(σ:St)(Q:List V->Hp->Prop)(us:List Value)(s':Shared):Prop:=∃vs H',Inv X pins σ H' s'/\Vals vs us/\Q vs H'
noncomputable def SP(X:Cx)(pins:List (Addr×Obj))(D:Ends)(f:Flow)(s':Shared):Prop:=
 match f with
 |.next=>∃σ' H',Inv X pins σ' H' s'/\D.nx σ' H'
 |.brk=>∃σ' H',Inv X pins σ' H' s'/\D.bk σ' H'
 |.cont=>∃σ' H',Inv X pins σ' H' s'/\D.ct σ' H'
 |.ret u=>∃v σ' H',Inv X pins σ' H' s'/\RelV v u/\D.rt v H'
noncomputable def PE(X:Cx)(e:Expr)(t:TE):Prop:=
 ∀(pins:List (Addr×Obj)) (s:Shared) (σ:St) (H:Hp) (Q:VK),Inv X pins σ H s->t σ H Q->wpAny (model X.prog X.w) X.A (eval e X.env) (EP X pins σ Q) X.xe s
noncomputable def PT(X:Cx)(e:Expr)(t:TT):Prop:=
 ∀(pins:List (Addr×Obj)) (s:Shared) (σ:St) (H:Hp) (Q:Bool->Hp->Prop),Inv X pins σ H s->t σ H Q->wpAny (model X.prog X.w) X.A (isTrue e X.env (eval e X.env)) (TP X pins σ Q) X.xe s
noncomputable def PW(X:Cx)(e:Expr)(t:TT):Prop:=
 ∀(whole:Sem Value) (pins:List (Addr×Obj)) (s:Shared) (σ:St) (H:Hp) (Q:Bool->Hp->Prop),Inv X pins σ H s->t σ H Q->wpAny (model X.prog X.w) X.A (isTrue e X.env whole) (TP X pins σ Q) X.xe s
theorem PW.pt{X:Cx}{e:Expr}{t:TT}(h:PW X e t):PT X e t:=h _
noncomputable def PA(X:Cx)(es:List Expr)(t:TA):Prop:=
 ∀(pos:Pos) (pins:List (Addr×Obj)) (s:Shared) (σ:St) (H:Hp) (Q:List V->Hp->Prop),Inv X pins σ H s->t σ H Q->wpAny (model X.prog X.w) X.A (spliced (backTo pos (starEach es X.env))) (AP X pins σ Q) X.xe s
noncomputable def PS(X:Cx)(st:Stmt)(t:TS):Prop:=
 ∀(pins:List (Addr×Obj)) (s:Shared) (σ:St) (H:Hp) (D:Ends),Inv X pins σ H s->t D σ H->wpAny (model X.prog X.w) X.A (exec st X.env) (SP X pins D) X.xe s
noncomputable def PSs(X:Cx)(st:List Stmt)(t:TS):Prop:=
 ∀(pins:List (Addr×Obj)) (s:Shared) (σ:St) (H:Hp) (D:Ends),Inv X pins σ H s->t D σ H->wpAny (model X.prog X.w) X.A (execs st X.env) (SP X pins D) X.xe s
theorem thn{α:Type}{t:Sem α}{Q Q':α->Shared->Prop}{M:Model}{A:Around}{E:Value->Shared->Prop}{s:Shared}(h:wpAny M A t Q E s)(hQ:∀a s,Q a s->Q' a s):wpAny M A t Q' E s:=dO h hQ fun _ _ x=>x
section
variable{X:Cx}
noncomputable def aOK(i:Nat):TE:=fun σ H Q=>∃v,σ[i]? =some (some v)/\Q v H
noncomputable def tC(v:V):TE:=fun _ H Q=>Q v H
theorem aFY{i:Nat}{x:Str}{pos:Pos}(hN:X.N[i]? =some x)(hv:Vis X.env.scope x)(hd:(x==("__debug__":Str))=false:=by decide)(hcd:(x==("__classdict__":Str))=false:=by decide):PE X (.Name x pos) (aOK i):=by
 intro pins s σ H Q I h
 obtain⟨v,e,h⟩:=h
 obtain⟨m,hn,hl⟩:=I.loc
 obtain⟨u,r,l⟩:=hl i x v hN e hv
 have fin:EP X pins σ Q u s:=⟨v,H,I,r,h⟩
 rcases l with ⟨hk,hm⟩ | ⟨hk,c,hc,hcell⟩
 ·exact wpAny_Name (wpAny_loadName_local I.ok.kind hk hn hm fin) hd
 ·rcases hk with hk | hk
  ·exact wpAny_Name (wpAny_loadName_cell I.ok.kind hk hc hcell fin) hd
  ·exact wpAny_Name (wpAny_loadName_free I.ok.kind hk hc hcell fin hcd) hd
theorem ayR{i j pos}:PE X (.Constant (.int i) j pos) (tC (.int i)):=fun _ _ _ H _ I h=>wpAny_Constant_int ⟨.int i,H,I.tok _,⟨_,rfl⟩,h⟩
theorem aPF{b j pos}:PE X (.Constant (.bool b) j pos) (tC (.bl b)):=fun _ _ _ H _ I h=>Constant_bool ⟨.bl b,H,I,rfl,h⟩
theorem aEA{j pos}:PE X (.Constant .none j pos) (tC .non):=fun _ _ _ H _ I h=>Constant_none ⟨.non,H,I,rfl,h⟩
theorem au6{x j pos}:PE X (.Constant (.str x) j pos) (tC (.str x)):=fun _ _ _ H _ I h=>Calls.Constant_str ⟨.str x,H,I.tok _,⟨_,rfl⟩,h⟩
noncomputable def Gl(X:Cx)(x:Str):Prop:=X.env.kindOf x=some .globalImplicit
theorem ahV{E:Value->Shared->Prop}{pins:List (Addr×Obj)}{s:Shared}{σ:St}{H:Hp}{x:Str}{u:Value}{pos:Pos}{Q:Value->Shared->Prop}(I:Inv X pins σ H s)(hg:Gl X x)(hm:X.mg x=some u)(h:Q u s)
  (hd:(x==("__debug__":Str))=false:=by decide):wpAny (model X.prog X.w) X.A (eval (.Name x pos) X.env) Q E s:=
 Calls.Name_function_global I.ok.kind hg (Calls.loadGlobal_global (by rw[I.ok.glob];exact I.mod.glob.keeps I.bk) hm h) hd
theorem aiB{E:Value->Shared->Prop}{pins:List (Addr×Obj)}{s:Shared}{σ:St}{H:Hp}{x:Str}{u:Value}{pos:Pos}{Q:Value->Shared->Prop}(I:Inv X pins σ H s)(hg:Gl X x)(hm:X.mg x=none)(hv:bootBuiltins x=some u)(h:Q u s)
  (hn:x≠"__name__":=by decide) (hd:(x==("__debug__":Str))=false:=by decide):wpAny (model X.prog X.w) X.A (eval (.Name x pos) X.env) Q E s:=by
 obtain⟨mb,h1,h2⟩:=I.mod.blt
 exact Calls.Name_function_global I.ok.kind hg (Calls.loadGlobal_builtin (by rw[I.ok.glob];exact I.mod.glob.keeps I.bk) hm (by rw[I.ok.blt];exact h1.keeps I.bk) ((h2 x hn).trans hv) h) hd
theorem aBB{x:Str}{v:V}{u:Value}{pos:Pos}(hg:Gl X x)(hm:X.mg x=some u)(r:RelV v u)(hd:(x==("__debug__":Str))=false:=by decide):PE X (.Name x pos) (tC v):=
 fun _ _ _ H _ I h=>ahV I hg hm ⟨v,H,I,r,h⟩ hd
theorem aCU{x:Str}{v:V}{u:Value}{pos:Pos}(hg:Gl X x)(hm:X.mg x=none)(hv:bootBuiltins x=some u)(r:RelV v u)(hn:x≠"__name__":=by decide)(hd:(x==("__debug__":Str))=false:=by decide):PE X (.Name x pos) (tC v):=
 fun _ _ _ H _ I h=>aiB I hg hm hv ⟨v,H,I,r,h⟩ hn hd
variable{a b:Expr}{ta tb:TE}{pos:Pos}
noncomputable def tB(t:TE):TT:=fun σ H Q=>t σ H fun x H1=>∃c,x=.bl c/\Q c H1
theorem aE1{e:Expr}{t:TE}(h:PE X e t)(he:∀whole,isTrue e X.env whole=(do let v ←whole;standAt e.pos;holding [v] (truthy v)):=by intro _;rfl):PT X e (tB t):=by
 intro pins s σ H Q I hw
 refine isTrue_plain (thn (h pins s σ H _ I hw) fun v s1 ⟨x,H1,I1,r1,q1⟩=>?_) (he _)
 obtain⟨d,rfl,q⟩:=q1
 cases r1
 exact eE ⟨H1,I1,q⟩
variable{tA tB':TT}{rest:List Expr}
noncomputable def aJ3(t u:TT):TT:=fun σ H Q=>t σ H fun c H1=>if c=true then u σ H1 Q else Q false H1
noncomputable def tOr(t u:TT):TT:=fun σ H Q=>t σ H fun c H1=>if c=true then Q true H1 else u σ H1 Q
noncomputable def aPL(t:TT):TT:=fun σ H Q=>t σ H fun c H1=>Q (!c) H1
theorem aBC(ha:PT X a tA):PW X (.BoolOp .And [a] pos) tA:=by
 intro wh pins s σ H Q I h
 refine isTrue_and (thn (ha pins s σ H Q I h) fun c s1 e=>?_)
 cases c with
 |true=>exact isTrue_and_nil e
 |false=>exact e
theorem aFF(ha:PT X a tA):PW X (.BoolOp .Or [a] pos) tA:=by
 intro wh pins s σ H Q I h
 refine isTrue_or (thn (ha pins s σ H Q I h) fun c s1 e=>?_)
 cases c with
 |false=>exact isTrue_or_nil e
 |true=>exact e
theorem aFN(ha:PT X a tA)(hb:PW X (.BoolOp .And (b::rest) pos) tB'):PW X (.BoolOp .And (a::b::rest) pos) (aJ3 tA tB'):=by
 intro wh pins s σ H Q I h
 refine isTrue_and (thn (ha pins s σ H _ I h) fun c s1 ⟨H1,I1,q1⟩=>?_)
 cases c with
 |true=>exact hb wh pins s1 σ H1 Q I1 q1
 |false=>exact⟨H1,I1,q1⟩
theorem aNX(ha:PT X a tA)(hb:PW X (.BoolOp .Or (b::rest) pos) tB'):PW X (.BoolOp .Or (a::b::rest) pos) (tOr tA tB'):=by
 intro wh pins s σ H Q I h
 refine isTrue_or (thn (ha pins s σ H _ I h) fun c s1 ⟨H1,I1,q1⟩=>?_)
 cases c with
 |true=>exact⟨H1,I1,q1⟩
 |false=>exact hb wh pins s1 σ H1 Q I1 q1
theorem aEL(ha:PT X a tA):PT X (.UnaryOp .Not a pos) (aPL tA):=by
 intro pins s σ H Q I h
 exact isTrue_not (ha pins s σ H (fun c H1=>Q (!c) H1) I h)
noncomputable def aDN(ta tb:TE):TE:=fun σ H Q=>ta σ H fun x H1=>∃c,x=.bl c/\if c=true then tb σ H1 Q else Q (.bl false) H1
noncomputable def aJN(ta tb:TE):TE:=fun σ H Q=>ta σ H fun x H1=>∃c,x=.bl c/\if c=true then Q (.bl true) H1 else tb σ H1 Q
noncomputable def aC7(ta:TE):TE:=fun σ H Q=>ta σ H fun x H1=>∃c,x=.bl c/\Q (.bl (!c)) H1
theorem aFP{op}{t:TE}(h:PE X a t):PE X (.BoolOp op [a] pos) t:=fun pins s σ H Q I hw=>BoolOp_one (h pins s σ H Q I hw)
theorem aD3(ha:PE X a ta)(hb:PE X (.BoolOp .And (b::rest) pos) tb):PE X (.BoolOp .And (a::b::rest) pos) (aDN ta tb):=by
 intro pins s σ H Q I h
 refine BoolOp_and (thn (ha pins s σ H _ I h) fun v s1 ⟨x,H1,I1,r1,q1⟩=>?_)
 obtain⟨c,rfl,q1⟩:=q1
 cases r1
 refine eE ?_
 cases c with
 |true=>exact hb pins s1 σ H1 Q I1 q1
 |false=>exact⟨.bl false,H1,I1,rfl,q1⟩
theorem aO3(ha:PE X a ta)(hb:PE X (.BoolOp .Or (b::rest) pos) tb):PE X (.BoolOp .Or (a::b::rest) pos) (aJN ta tb):=by
 intro pins s σ H Q I h
 refine BoolOp_or (thn (ha pins s σ H _ I h) fun v s1 ⟨x,H1,I1,r1,q1⟩=>?_)
 obtain⟨c,rfl,q1⟩:=q1
 cases r1
 refine eE ?_
 cases c with
 |false=>exact hb pins s1 σ H1 Q I1 q1
 |true=>exact⟨.bl true,H1,I1,rfl,q1⟩
theorem aEQ(ha:PE X a ta):PE X (.UnaryOp .Not a pos) (aC7 ta):=by
 intro pins s σ H Q I h
 refine UnaryOp_ (thn (ha pins s σ H _ I h) fun v s1 ⟨x,H1,I1,r1,q1⟩=>?_)
 obtain⟨c,rfl,q1⟩:=q1
 cases r1
 exact not_of (eE ⟨.bl (!c),H1,I1,rfl,q1⟩)
noncomputable def tIf(t:TT)(ta tb:TE):TE:=fun σ H Q=>t σ H fun c H1=>if c=true then ta σ H1 Q else tb σ H1 Q
theorem aAM{c:Expr}(hc:PT X c tA)(ha:PE X a ta)(hb:PE X b tb):PE X (.IfExp c a b pos) (tIf tA ta tb):=by
 intro pins s σ H Q I h
 refine wpAny_IfExp (thn (hc pins s σ H _ I h) fun d s1 ⟨H1,I1,q1⟩=>?_)
 cases d with
 |true=>exact ha pins s1 σ H1 Q I1 q1
 |false=>exact hb pins s1 σ H1 Q I1 q1
end
noncomputable def SqL(K:FG)(H:Hp)(a:Addr)(xs:List V):Prop:=
 Rd H a (.lst xs)∨
  ∃(o:Obj) (its:Array Value) (n:Nat),K.lookup a=some o/\o.cls=.type "list"/\o.dict=none/\o.data=.seq its n/\its.size<=sizeLine/\Vals xs its.toList
noncomputable def SqT(K:FG)(H:Hp)(a:Addr)(xs:List V):Prop:=
 Rd H a (.tup xs)∨
  ∃(o:Obj) (its:Array Value) (n:Nat),K.lookup a=some o/\o.cls=.type "tuple"/\o.data=.seq its n/\its.size<=sizeLine/\Vals xs its.toList
noncomputable def absV:Value->Option V
 |.none=>some .non
 |.bool b=>some (.bl b)
 |.int i _=>some (.int i)
 |.str x _=>some (.str x)
 |.bytes b _=>some (.byt b)
 |.float b _=>some (.flt b)
 |.ref a=>some (.ref a)
 |.type n=>some (.ty n)
 |_=>none
theorem RelV.abs{x:V}{u:Value}(r:RelV x u):absV u=some x:=by
 cases x with
 |non=>cases r;rfl
 |bl _=>cases r;rfl
 |int _=>obtain⟨t,rfl⟩:=r;rfl
 |str _=>obtain⟨t,rfl⟩:=r;rfl
 |byt _=>obtain⟨t,rfl⟩:=r;rfl
 |flt _=>obtain⟨t,rfl⟩:=r;rfl
 |ref _=>cases r;rfl
 |ty _=>cases r;rfl
theorem RelV.inj{x y:V}{u:Value}(r:RelV x u)(q:RelV y u):x=y:=a8 (r.abs.symm.trans q.abs)
theorem Vals.inj:∀{xs ys:List V} {us:List Value},Vals xs us->Vals ys us->xs=ys
 |_,_,_,.nil,.nil=>rfl
 |_,_,_,.cons r t,.cons r' t'=>by rw[r.inj r',Vals.inj t t']
section
variable{X:Cx}{pins:List (Addr×Obj)}{σ:St}{H:Hp}{s:Shared}{a:Addr}{xs ys:List V}
theorem SqL.of{K:FG}(h:H a=some (.lst xs)):SqL K H a xs:=.inl (.inl h)
theorem SqT.of{K:FG}(h:H a=some (.tup xs)):SqT K H a xs:=.inl (.inl h)
theorem Inv.list(I:Inv X pins σ H s)(h:SqL X.K H a xs):∃its:List Value,Vals xs its/\PlainL s.heap a its.toArray/\xs.length<=sizeLine:=by
 rcases h with h | ⟨o,its,n,hk,hc,hd,hs,hz,r⟩
 ·obtain⟨z,its,n,r,e⟩:=h.ok I.hok
  exact⟨its,r,⟨_,n,e,rfl,rfl,rfl⟩,z⟩
 ·refine⟨its.toList,r,⟨o,n,I.kIn a o hk,hc,hd,by simpa using hs⟩,?_⟩
  have e:=r.length
  simp only[bT] at e
  omega
theorem Inv.tuple(I:Inv X pins σ H s)(h:SqT X.K H a xs):∃its:List Value,Vals xs its/\IsTup s.heap a its.toArray/\xs.length<=sizeLine:=by
 rcases h with h | ⟨o,its,n,hk,hc,hs,hz,r⟩
 ·obtain⟨z,its,r,p⟩:=h.ok I.hok
  exact⟨its,r,p,z⟩
 ·refine⟨its.toList,r,⟨o,I.kIn a o hk,hc,n,by simpa using hs⟩,?_⟩
  have e:=r.length
  simp only[bT] at e
  omega
theorem Inv.list_inj(I:Inv X pins σ H s)(h:SqL X.K H a xs)(h':SqL X.K H a ys):xs=ys:=by
 obtain⟨its,r,⟨o,n,e,_,_,d⟩,_⟩:=I.list h
 obtain⟨its',r',⟨o',n',e',_,_,d'⟩,_⟩:=I.list h'
 rw[e] at e';cases e'
 rw[d] at d'
 injection d' with d1 _
 have:its=its':=by simpa using congrArg Array.toList d1
 subst this
 exact r.inj r'
theorem Inv.tuple_inj(I:Inv X pins σ H s)(h:SqT X.K H a xs)(h':SqT X.K H a ys):xs=ys:=by
 obtain⟨its,r,⟨o,e,_,n,d⟩,_⟩:=I.tuple h
 obtain⟨its',r',⟨o',e',_,n',d'⟩,_⟩:=I.tuple h'
 rw[e] at e';cases e'
 rw[d] at d'
 injection d' with d1 _
 have:its=its':=by simpa using congrArg Array.toList d1
 subst this
 exact r.inj r'
end
noncomputable abbrev Cx.wish(X:Cx)(E:Value->Shared->Prop):Cx:={X with xe:=E}
noncomputable abbrev Cx.nox(X:Cx):Cx:=X.wish fun _ _=>False
theorem Cx.Ok.wish{X:Cx}(ok:X.Ok)(E:Value->Shared->Prop):(X.wish E).Ok:=
 ⟨ok.mod,ok.kind,ok.glob,ok.blt,ok.above,ok.inj,ok.has,ok.cab,ok.hd,ok.frames,ok.stk,ok.exf,ok.bs,ok.bsz,ok.noex,ok.exfs,ok.funs,ok.frf⟩
theorem Cx.Ok.unwish{X:Cx}{E:Value->Shared->Prop}(ok:(X.wish E).Ok):X.Ok:=
 ⟨ok.mod,ok.kind,ok.glob,ok.blt,ok.above,ok.inj,ok.has,ok.cab,ok.hd,ok.frames,ok.stk,ok.exf,ok.bs,ok.bsz,ok.noex,ok.exfs,ok.funs,ok.frf⟩
section
variable{X:Cx}{pins:List (Addr×Obj)}{σ:St}{H:Hp}{s:Shared}{E:Value->Shared->Prop}
theorem Inv.wish(I:Inv X pins σ H s)(E:Value->Shared->Prop):Inv (X.wish E) pins σ H s:=⟨I.ok.wish E,I.os,I.bare,I.base,I.loc,I.cell,I.free,I.freeC,I.pin,I.hok,I.len⟩
theorem Inv.unwish(I:Inv (X.wish E) pins σ H s):Inv X pins σ H s:=⟨I.ok.unwish,I.os,I.bare,I.base,I.loc,I.cell,I.free,I.freeC,I.pin,I.hok,I.len⟩
theorem SP.unwish{D:Ends}{f:Flow}{s':Shared}(h:SP (X.wish E) pins D f s'):SP X pins D f s':=by
 cases f with
 |next=>obtain⟨σ',H',I,q⟩:=h;exact⟨σ',H',I.unwish,q⟩
 |brk=>obtain⟨σ',H',I,q⟩:=h;exact⟨σ',H',I.unwish,q⟩
 |cont=>obtain⟨σ',H',I,q⟩:=h;exact⟨σ',H',I.unwish,q⟩
 |ret u=>obtain⟨v,σ',H',I,r,q⟩:=h;exact⟨v,σ',H',I.unwish,r,q⟩
theorem PSs.nox{st:List Stmt}{t:TS}(h:PSs X.nox st t):PSs X st t:=fun pins s σ H D I hw=>
 dO (h pins s σ H D (I.wish _) hw) (fun _ _ q=>q.unwish) fun _ _ z=>False.elim z
end
section
variable{X:Cx}{st:Stmt}{rest:List Stmt}{t u:TS}{e:Expr}{te:TE}{pos:Pos}
noncomputable def aDL:TS:=fun D σ H=>D.nx σ H
noncomputable def aPV(t u:TS):TS:=fun D σ H=>t {D with nx:=u D} σ H
theorem aCF:PSs X [] aDL:=fun _ _ σ H _ I h=>wpAny_execs_nil ⟨σ,H,I,h⟩
theorem aAU(h1:PS X st t)(h2:PSs X rest u):PSs X (st::rest) (aPV t u):=by
 intro pins s σ H D I h
 refine wpAny_execs_cons (thn (h1 pins s σ H {D with nx:=u D} I h) fun f s1 q=>?_)
 cases f with
 |next=>
  obtain⟨σ',H',I',q⟩:=q
  exact h2 pins s1 σ' H' D I' q
 |ret v=>exact q
 |brk=>exact q
 |cont=>exact q
theorem aCB(h1:PS X st t):PSs X [st] t:=by
 intro pins s σ H D I h
 refine wpAny_execs_cons (thn (h1 pins s σ H D I h) fun f s1 q=>?_)
 cases f with
 |next=>exact wpAny_execs_nil q
 |ret v=>exact q
 |brk=>exact q
 |cont=>exact q
theorem Inv.quiet{pins:List (Addr×Obj)}{σ:St}{H:Hp}{s:Shared}(I:Inv X pins σ H s):interactive X.env=false:=by simp[interactive,I.ok.kind]
noncomputable def aC6(te:TE):TS:=fun D σ H=>te σ H fun _ H1=>D.nx σ H1
theorem aCC(he:PE X e te)(hs:swapsWith e none pos.line X.env=pure false:=by rfl):PS X (.Expr e pos) (aC6 te):=by
 intro pins s σ H D I h
 exact wpAny_Expr_any (thn (he pins s σ H _ I h) fun v s1 ⟨x,H1,I1,r1,q1⟩=>⟨σ,H1,I1,q1⟩) I.quiet hs
noncomputable def aGB(te:TE):TS:=fun D σ H=>te σ H D.rt
theorem aEU(he:PE X e te):PS X (.Return (some e) pos) (aGB te):=by
 intro pins s σ H D I h
 exact wpAny_Return_some (thn (he pins s σ H _ I h) fun v s1 ⟨x,H1,I1,r1,q1⟩=>⟨x,σ,H1,I1,r1,q1⟩)
noncomputable def aLK(c:TT)(t u:TS):TS:=fun D σ H=>c σ H fun b H1=>if b=true then t D σ H1 else u D σ H1
theorem aM1{c:Expr}{a b:List Stmt}{tc:TT}(hc:PT X c tc)(ha:PSs X a t)(hb:PSs X b u):PS X (.If c a b pos) (aLK tc t u):=by
 intro pins s σ H D I h
 refine wpAny_If (thn (hc pins s σ H _ I h) fun d s1 ⟨H1,I1,q1⟩=>?_)
 cases d with
 |true=>exact ha pins s1 σ H1 D I1 q1
 |false=>exact hb pins s1 σ H1 D I1 q1
noncomputable def aAN:TS:=fun _ _ _=>False
theorem aA2:PS X st aAN:=fun _ _ _ _ _ _ h=>h.elim
end
noncomputable abbrev TG:=V->St->Hp->(St->Hp->Prop)->Prop
noncomputable abbrev TGs:=List V->St->Hp->(St->Hp->Prop)->Prop
noncomputable def PG(X:Cx)(target:Expr)(t:TG):Prop:=
 ∀(pins:List (Addr×Obj)) (s:Shared) (σ:St) (H:Hp) (v:V) (u:Value) (Q:St->Hp->Prop),Inv X pins σ H s->RelV v u->t v σ H Q->
  wpAny (model X.prog X.w) X.A (assign target X.env u) (fun _ s'=>∃σ' H',Inv X pins σ' H' s'/\Q σ' H') X.xe s
noncomputable def PGs(X:Cx)(ts:List Expr)(t:TGs):Prop:=
 ∀(pins:List (Addr×Obj)) (s:Shared) (σ:St) (H:Hp) (vs:List V) (us:List Value) (Q:St->Hp->Prop),Inv X pins σ H s->Vals vs us->t vs σ H Q->
  wpAny (model X.prog X.w) X.A (assignInOrder ((assignEach ts X.env).map (·.2)) us) (fun _ s'=>∃σ' H',Inv X pins σ' H' s'/\Q σ' H') X.xe s
section
variable{X:Cx}{pos:Pos}
noncomputable def acO(i:Nat):TG:=fun v σ H Q=>Q (σ.set i (some v)) H
theorem aCA{i:Nat}{x:Str}(hN:X.N.Nodup)(hi:X.N[i]? =some x)(hx:Loc X.env.scope x)(hf:X.fn x=true∨X.env.scope.names.lookup x=some .local:=by first | exact .inl rfl | exact .inr rfl | assumption):PG X (.Name x pos) (acO i):=by
 intro pins s σ H v u Q I r h
 exact wpAny_assign_Name (amJ I hN hi hx r (fun s' I'=>⟨_,H,I',h⟩) hf)
noncomputable def aBM:TGs:=fun vs σ H Q=>vs=[]/\Q σ H
noncomputable def aoH(t:TG)(u:TGs):TGs:=fun vs σ H Q=>∃v r,vs=v::r/\t v σ H fun σ' H'=>u r σ' H' Q
theorem aBP:PGs X [] aBM:=by
 intro pins s σ H vs us Q I r h
 obtain⟨e,h⟩:=h
 subst e
 cases r
 exact assignInOrder_nil ⟨σ,H,I,h⟩
theorem azE{e:Expr}{es:List Expr}{t:TG}{u:TGs}(h1:PG X e t)(h2:PGs X es u)
  (hs:(assignEach (e::es) X.env).map (·.2)=assign e X.env::(assignEach es X.env).map (·.2):=by rfl):PGs X (e::es) (aoH t u):=by
 intro pins s σ H vs us Q I r h
 obtain⟨v,vr,e1,h⟩:=h
 subst e1
 cases r with
 |cons r rr=>
  rw[hs]
  refine assignInOrder_cons (thn (h1 pins s σ H _ _ _ I r h) fun _ s1 ⟨σ1,H1,I1,q1⟩=>?_)
  exact h2 pins s1 σ1 H1 _ _ Q I1 rr q1
noncomputable def azG(K:FG)(n:Nat)(t:TGs):TG:=fun v σ H Q=>∃a xs,v=.ref a/\SqT K H a xs/\xs.length=n/\t xs σ H Q
theorem aEH{es:List Expr}{k:Nat}{t:TGs}{n:Nat}(hc:X.calm=true)(h:PGs X es t)
  (hn:(assignEach es X.env).length=n:=by rfl) (hst:(assignEach es X.env).findIdx? (·.1)=none:=by rfl):PG X (.Tuple es k pos) (azG X.K n t):=by
 intro pins s σ H v u Q I r hw
 obtain⟨a,xs,e1,hq,hl,hw⟩:=hw
 subst e1
 cases r
 obtain⟨its,rv,ht,hz⟩:=I.tuple hq
 refine assign_Tuple_tuple (I.ok.hd hc) ht (by simp[hn,←hl,rv.length]) hst fun h' hx=>?_
 have I1:Inv X pins σ H {s with heap:=h'}:=I.kept (t':=s.toks) fun b o e=>hx b o (aV (aQ e)) e
 exact h pins _ σ H xs _ Q I1 (by simpa using rv) hw
noncomputable def azK(te:TE)(g:TG):TS:=fun D σ H=>te σ H fun x H1=>g x σ H1 D.nx
theorem aF3{tg e:Expr}{te:TE}{g:TG}(he:PE X e te)(hg:PG X tg g)(hs:swapsWithSole [tg] e pos.line X.env=pure false:=by rfl)(hw:swappedStores [tg] e X.env=pure none:=by rfl)
  (h1:(assignEach [tg] X.env).map (·.2)=[assign tg X.env]:=by rfl):PS X (.Assign [tg] e pos) (azK te g):=by
 intro pins s σ H D I h
 refine wpAny_Assign_stores (thn (he pins s σ H _ I h) fun v s1 ⟨x,H1,I1,r1,q1⟩=>?_) hs hw
 rw[h1]
 exact thn (hg pins s1 σ H1 x v _ I1 r1 q1) fun _ s2 q=>q
theorem aD1{i:Nat}{x:Str}{e:Expr}{te:TE}{pos':Pos}(hN:X.N.Nodup)(hi:X.N[i]? =some x)(hx:Loc X.env.scope x)(he:PE X e te)(hs:swapsWith e (some (.Name x pos')) pos.line X.env=pure false:=by rfl)(hf:X.fn x=true∨X.env.scope.names.lookup x=some .local:=by first | exact .inl rfl | exact .inr rfl | assumption):
  PS X (.Assign [.Name x pos'] e pos) (azK te (acO i)):=by
 intro pins s σ H D I h
 refine wpAny_Assign_Name (thn (he pins s σ H _ I h) fun v s1 ⟨y,H1,I1,r1,q1⟩=>?_) hs
 exact amJ I1 hN hi hx r1 (fun s2 I2=>⟨_,H1,I2,q1⟩) hf
end
section
variable{X:Cx}{pos:Pos}
noncomputable def auE(c:TT)(tb:TS):TS:=fun D σ H=>∃W:Nat->St->Hp->Prop,(∃m,W m σ H)/\∀m σ H,W m σ H->
 c σ H fun b H1=>if b=true then ∃N:St->Hp->Prop,(∀σ' H',N σ' H'->∃m',m'<m/\W m' σ' H')/\tb {D with nx:=N,ct:=N,bk:=D.nx} σ H1 else D.nx σ H1
theorem aAH{c:Expr}{body:List Stmt}{tc:TT}{tb:TS}(hp:PassesOwn (model X.prog X.w) X.A X.env X.xe)(hc:PT X c tc)(hb:PSs X body tb):PS X (.While c body [] pos) (auE tc tb):=by
 intro pins s σ H D I h
 obtain⟨W,⟨m0,w0⟩,turn⟩:=h
 refine wpAny_While (codeAny_whileLoop (fun n s'=>∃σ' H',Inv X pins σ' H' s'/\W n σ' H') ?_ m0 ⟨σ,H,I,w0⟩)
 rintro n s1 ⟨σ1,H1,I1,w1⟩
 refine dL hp (thn (hc pins s1 σ1 H1 _ I1 (turn n σ1 H1 w1)) fun b s2 ⟨H2,I2,q2⟩=>?_)
 cases b with
 |true=>
  obtain⟨N,hN,q2⟩:=q2
  rw[if_pos rfl]
  refine dL hp (thn (hb pins s2 σ1 H2 _ I2 q2) fun f s3 q3=>?_)
  cases f with
  |next=>
   obtain⟨σ3,H3,I3,n3⟩:=q3
   obtain⟨m',hm,w3⟩:=hN σ3 H3 n3
   exact⟨m',hm,σ3,H3,I3,w3⟩
  |cont=>
   obtain⟨σ3,H3,I3,n3⟩:=q3
   obtain⟨m',hm,w3⟩:=hN σ3 H3 n3
   exact⟨m',hm,σ3,H3,I3,w3⟩
  |brk=>exact q3
  |ret v=>exact q3
 |false=>
  rw[if_neg aW]
  exact wpAny_execs_nil ⟨σ1,H2,I2,q2⟩
end
structure It where
 go:Nat->Hp->Prop
 yld:Nat->Hp->V->Hp->Prop
 stop:Nat->Hp->Prop
noncomputable def adY(X:Cx)(pins:List (Addr×Obj))(H:Hp)(b:Addr):Prop:=
 H b=none/\b≠X.env.locals/\b∉X.fs/\(b∈X.ex∨X.s₀.heap.objs.size<=b)/\(∀x c,X.env.cells.lookup x=some c->c≠b)/\∀p∈X.pn++pins,p.1≠b
theorem Inv.fpOk{X:Cx}{pins:List (Addr×Obj)}{σ:St}{H H':Hp}{s:Shared}{b:Addr}(I:Inv X pins σ H s)(hb:s.heap.objs.size<=b)(hn:H' b=none):adY X pins H' b:=by
 refine⟨hn,Nat.ne_of_gt (aX I.lt hb),I.nofs hb,.inr (bJ I.sz hb),fun x c e z=>?_,fun p hp z=>?_⟩
 ·obtain⟨v,q⟩:=I.cell x c e
  exact absurd (aX q.lt (by rw[z];exact hb)) (cC _)
 ·exact absurd (aX (aQ (I.pin p hp).1) (by rw[z];exact hb)) (cC _)
structure Turn(P:Program)(w:World)(K:FG)(tg:Expr)(J:It)(fp:List Addr)(it:Addr)(tn:Nat->Heap->Prop):Prop where
 mem:it∈fp
 obj:∀i h,tn i h->∀b∈fp,∃o,h.get? b=some o/\∀v,o.data≠ .cell v
 keep:∀i h h',tn i h->(∀b∈fp,∀o,h.get? b=some o->h'.get? b=some o)->tn i h'
 item:∀(X:Cx),X.prog=P->X.w=w->X.K=K->X.calm=true->∀(i:Nat) (pins:List (Addr×Obj)) (s:Shared) (σ:St) (H:Hp) (E:Value->Shared->Prop),Inv X pins σ H s->(∀b∈fp,adY X pins H b)->tn i s.heap->J.go i H->
  wpAny (model P w) X.A (pyNext (.ref it)) (fun r s1=>∃u,r=some u/\
   wpAny (model P w) X.A (letOwnedTupleGo tg (.ref it) u) (fun _ s2=>∃x H',Inv X pins σ H' s2/\RelV x u/\J.yld i H x H'/\tn (i+1) s2.heap/\∀b∈fp,H' b=none) E s1) E s
 done:∀(X:Cx),X.prog=P->X.w=w->X.K=K->X.calm=true->∀(i:Nat) (pins:List (Addr×Obj)) (s:Shared) (σ:St) (H:Hp) (E:Value->Shared->Prop),Inv X pins σ H s->(∀b∈fp,adY X pins H b)->tn i s.heap->J.stop i H->
  wpAny (model P w) X.A (pyNext (.ref it)) (fun r s1=>r=none/\Inv X pins σ H s1) E s
 self:∀(A:Around) (i:Nat) (s:Shared) (Q:Value->Shared->Prop) (E:Value->Shared->Prop),tn i s.heap->Q (.ref it) s->wpAny (model P w) A (pyIter (.ref it)) Q E s
noncomputable abbrev TI:=St->Hp->(It->Hp->Prop)->Prop
noncomputable def PIE(X:Cx)(pins:List (Addr×Obj))(σ:St)(tg:Expr)(R:It->Hp->Prop)(itv:Value)(s2:Shared):Prop:=
 ∃(it:Addr) (fp:List Addr) (tn:Nat->Heap->Prop) (J:It) (H':Hp),itv=.ref it/\Inv X pins σ H' s2/\Turn X.prog X.w X.K tg J fp it tn/\tn 0 s2.heap/\(∀b∈fp,adY X pins H' b)/\R J H'
noncomputable def PI(X:Cx)(tg iter:Expr)(wi:TI):Prop:=
 ∀(pins:List (Addr×Obj)) (s:Shared) (σ:St) (H:Hp) (R:It->Hp->Prop),Inv X pins σ H s->wi σ H R->
  wpAny (model X.prog X.w) X.A (eval iter X.env) (fun v s1=>wpAny (model X.prog X.w) X.A (pyIter v) (PIE X pins σ tg R) X.xe s1) X.xe s
theorem arX{M:Model}{A:Around}{E:Value->Shared->Prop}{s:Shared}{tg:Expr}{it:Addr}{u:Value}{o:Obj}{n:String}{vs:Array Value}{Q:Unit->Shared->Prop}(ho:s.heap.get? it=some o)(hc:o.cls=.type n)(hd:o.data=.fields vs)
  (hn:["enumerate","zip","dict_itemiterator","dict_reverseitemiterator","odict_iterator","itertools.zip_longest","itertools.pairwise"].contains n=false) (hQ:Q () s):wpAny M A (letOwnedTupleGo tg (.ref it) u) Q E s:=by
 unfold letOwnedTupleGo
 cases tg<;>first
  |exact eC hQ
  |(cases u<;>first
    |exact eC hQ
    |(refine dN (wpAny_load ho ?_)
      rw[hc,hd]
      show wpAny M A (if (["enumerate","zip","dict_itemiterator","dict_reverseitemiterator","odict_iterator","itertools.zip_longest","itertools.pairwise"].contains n&&vs[0]? ==some (rawInt _))=true then _ else _) Q E s
      rw[if_neg (by intro h;rw[hn,Bool.false_and] at h;cases h)]
      exact eC hQ))
noncomputable def Itl(K:FG)(a:Addr):It:=
 ⟨fun i H=>∃xs x,SqL K H a xs/\xs[i]? =some x,fun i H x H'=>H'=H/\∀xs,SqL K H a xs->xs[i]? =some x,fun i H=>∃xs,SqL K H a xs/\xs.length<=i⟩
noncomputable def Itt(K:FG)(a:Addr):It:=
 ⟨fun i H=>∃xs x,SqT K H a xs/\xs[i]? =some x,fun i H x H'=>H'=H/\∀xs,SqT K H a xs->xs[i]? =some x,fun i H=>∃xs,SqT K H a xs/\xs.length<=i⟩
noncomputable def Itr(lo:Int)(n:Nat):It:=⟨fun i _=>i<n,fun i H x H'=>H'=H/\x=.int (lo+i),fun i _=>n<=i⟩
theorem ayF{P:Program}{w:World}{K:FG}{tg:Expr}(a it:Addr):Turn P w K tg (Itl K a) [it] it (fun i h=>h.IsListIter it a i) where
 mem:=by simp
 obj:=fun i h st b hb=>by
  have e:b=it:=by simpa using hb
  subst e
  obtain⟨o,e,c,d⟩:=st
  exact⟨o,e,fun v z=>by rw[d] at z;cases z⟩
 keep:=fun i h h' st k=>st.at fun o e=>k it (by simp) o e
 item:=by
  intro X hP hw hK hc i pins s σ H E I hf st hg
  subst hP hw hK
  obtain⟨xs,x,hq,hx⟩:=hg
  obtain⟨its,rv,p,hz⟩:=I.list hq
  obtain⟨u,hu,ru⟩:=rv.get hx
  obtain⟨f0,f1,f2,f3,f4,f5⟩:=hf it (by simp)
  refine wpAny_pyNext_list_item st p.isList (x:=u) (by simpa using hu) fun h' st' sb=>?_
  have I1:Inv X pins σ H {s with heap:=h'}:=I.turned (t':=s.toks) (fun b o hb e=>(sb.2 b hb).trans e) f0 f1 f3 f4 f5
  obtain⟨o,e,c,d⟩:=id st'
  exact⟨u,rfl,arX (s:={s with heap:=h'}) e c d (by decide) ⟨x,H,I1,ru,⟨rfl,fun ys hy=>by rw[I.list_inj hy hq];exact hx⟩,st',fun b hb=>(hf b hb).1⟩⟩
 done:=by
  intro X hP hw hK hc i pins s σ H E I hf st hg
  subst hP hw hK
  obtain⟨xs,hq,hx⟩:=hg
  obtain⟨its,rv,p,hz⟩:=I.list hq
  obtain⟨f0,f1,f2,f3,f4,f5⟩:=hf it (by simp)
  have hl:=rv.length
  exact wpAny_pyNext_list_end (I.ok.hd hc) st p.isList (by simp;omega) fun h' eb=>⟨rfl,I.turned (t':=s.toks) (fun b o hb e=>eb b o hb e) f0 f1 f3 f4 f5⟩
 self:=fun _ _ _ _ _ st h=>wpAny_pyIter_listiter st h
theorem auR{P:Program}{w:World}{K:FG}{tg:Expr}(a it:Addr):Turn P w K tg (Itt K a) [it] it (fun i h=>h.IsTupleIter it a i) where
 mem:=by simp
 obj:=fun i h st b hb=>by
  have e:b=it:=by simpa using hb
  subst e
  obtain⟨o,e,c,d⟩:=st
  exact⟨o,e,fun v z=>by rw[d] at z;cases z⟩
 keep:=fun i h h' st k=>st.at fun o e=>k it (by simp) o e
 item:=by
  intro X hP hw hK hc i pins s σ H E I hf st hg
  subst hP hw hK
  obtain⟨xs,x,hq,hx⟩:=hg
  obtain⟨its,rv,p,hz⟩:=I.tuple hq
  obtain⟨u,hu,ru⟩:=rv.get hx
  obtain⟨f0,f1,f2,f3,f4,f5⟩:=hf it (by simp)
  refine wpAny_pyNext_tuple_item st (show s.heap.IsTuple a its.toArray from p) (x:=u) (by simpa using hu) fun h' st' sb=>?_
  have I1:Inv X pins σ H {s with heap:=h'}:=I.turned (t':=s.toks) (fun b o hb e=>(sb.2 b hb).trans e) f0 f1 f3 f4 f5
  obtain⟨o,e,c,d⟩:=id st'
  exact⟨u,rfl,arX (s:={s with heap:=h'}) e c d (by decide) ⟨x,H,I1,ru,⟨rfl,fun ys hy=>by rw[I.tuple_inj hy hq];exact hx⟩,st',fun b hb=>(hf b hb).1⟩⟩
 done:=by
  intro X hP hw hK hc i pins s σ H E I hf st hg
  subst hP hw hK
  obtain⟨xs,hq,hx⟩:=hg
  obtain⟨its,rv,p,hz⟩:=I.tuple hq
  obtain⟨f0,f1,f2,f3,f4,f5⟩:=hf it (by simp)
  have hl:=rv.length
  exact wpAny_pyNext_tuple_end (I.ok.hd hc) st (show s.heap.IsTuple a its.toArray from p) (by simp;omega) fun h' eb=>⟨rfl,I.turned (t':=s.toks) (fun b o hb e=>eb b o hb e) f0 f1 f3 f4 f5⟩
 self:=fun _ _ _ _ _ st h=>wpAny_pyIter_tupleiter st h
theorem auY{P:Program}{w:World}{K:FG}{tg:Expr}(it:Addr)(lo:Int)(n:Nat):Turn P w K tg (Itr lo n) [it] it (fun i h=>IsRangeIter h it (lo+(i:Nat)*1) ((n:Int)-(i:Nat)) 1) where
 mem:=by simp
 obj:=fun i h st b hb=>by
  have e:b=it:=by simpa using hb
  subst e
  exact⟨_,st,fun v z=>by
   have z':Data.fields _=Data.cell v:=z
   cases z'⟩
 keep:=fun i h h' st k=>k it (by simp) _ st
 item:=by
  intro X hP hw hK hc i pins s σ H E I hf st hg
  subst hP hw hK
  obtain⟨f0,f1,f2,f3,f4,f5⟩:=hf it (by simp)
  have W:=Walks.range (prog:=X.prog) (w:=X.w) (I.ok.hd hc) it lo 1 n
  refine W.item i s _ _ hg st fun v h' tk hv st' kk=>?_
  obtain⟨t,rfl⟩:=hv
  have I1:Inv X pins σ H {s with heap:=h',toks:=tk}:=I.turned (fun b o hb e=>kk b o (by simpa using hb) e) f0 f1 f3 f4 f5
  refine⟨_,rfl,arX (s:={s with heap:=h',toks:=tk}) (n:="range_iterator") st' rfl rfl (by decide) ⟨.int (lo+i),H,I1,⟨t,?_⟩,⟨rfl,rfl⟩,st',fun b hb=>(hf b hb).1⟩⟩
  rw[Int.mul_one]
 done:=by
  intro X hP hw hK hc i pins s σ H E I hf st hg
  subst hP hw hK
  obtain⟨f0,f1,f2,f3,f4,f5⟩:=hf it (by simp)
  exact wpAny_pyNext_range_end (I.ok.hd hc) st (by have:n<=i:=hg;omega) fun h' eb=>⟨rfl,I.turned (t':=s.toks) (fun b o hb e=>eb b o hb e) f0 f1 f3 f4 f5⟩
 self:=fun _ _ _ _ _ st h=>wpAny_pyIter_rangeiter st h
section
variable{X:Cx}{tg:Expr}
noncomputable def aDQ(K:FG)(tl:TE):TI:=fun σ H R=>tl σ H fun x H1=>∃a,x=.ref a/\(∃xs,SqL K H1 a xs)/\R (Itl K a) H1
noncomputable def aLQ(K:FG)(tl:TE):TI:=fun σ H R=>tl σ H fun x H1=>∃a,x=.ref a/\(∃xs,SqT K H1 a xs)/\R (Itt K a) H1
theorem aBA{l:Expr}{tl:TE}(hl:PE X l tl):PI X tg l (aDQ X.K tl):=by
 intro pins s σ H R I h
 refine thn (hl pins s σ H _ I h) fun v s1 ⟨x,H1,I1,r1,q1⟩=>?_
 obtain⟨a,e,⟨xs,hq⟩,q⟩:=q1
 subst e
 cases r1
 obtain⟨its,rv,p,hz⟩:=I1.list hq
 refine wpAny_pyIter_list p.isList ?_
 refine⟨s1.heap.objs.size,[s1.heap.objs.size],_,_,H1,rfl,I1.kept (t':=s1.toks) fun b o e=>aS _ e,ayF a _,⟨_,bC _ rfl,rfl,rfl⟩,fun b hb=>?_,q⟩
 have e:b=s1.heap.objs.size:=by simpa using hb
 subst e
 exact I1.fpOk (aO _) (I1.hok.fresh (aO _))
theorem aF4{l:Expr}{tl:TE}(hl:PE X l tl):PI X tg l (aLQ X.K tl):=by
 intro pins s σ H R I h
 refine thn (hl pins s σ H _ I h) fun v s1 ⟨x,H1,I1,r1,q1⟩=>?_
 obtain⟨a,e,⟨xs,hq⟩,q⟩:=q1
 subst e
 cases r1
 obtain⟨its,rv,p,hz⟩:=I1.tuple hq
 refine wpAny_pyIter_tuple (show s1.heap.IsTuple a its.toArray from p) ?_
 refine⟨s1.heap.objs.size,[s1.heap.objs.size],_,_,H1,rfl,I1.kept (t':=s1.toks) fun b o e=>aS _ e,auR a _,⟨_,bC _ rfl,rfl,rfl⟩,fun b hb=>?_,q⟩
 have e:b=s1.heap.objs.size:=by simpa using hb
 subst e
 exact I1.fpOk (aO _) (I1.hok.fresh (aO _))
theorem as9{pins:List (Addr×Obj)}{σ:St}{H:Hp}{s:Shared}{R:It->Hp->Prop}{E:Value->Shared->Prop}{lo hi:Int}{t u v:Tok}{tk:Nat}(I:Inv X pins σ H s)(h1: -(2^62)<=lo)(h2:lo<2^62)(h3: -(2^62)<=hi)(h4:hi<2^62)
  (q:R (Itr lo (hi-lo).toNat) H):wpAny (model X.prog X.w) X.A (pyIter (.ref s.heap.objs.size)) (PIE X pins σ tg R) E {s with heap:=s.heap.push {cls:=.type "range",data:=.fields #[.int lo t,.int hi u,.int 1 v]},toks:=tk}:=by
 refine wpAny_pyIter_range (IsRange.new ..) (small_one h1 h2 h3 h4) ?_
 have I1:Inv X pins σ H {s with heap:=s.heap.push {cls:=.type "range",data:=.fields #[.int lo t,.int hi u,.int 1 v]},toks:=tk}:=I.kept fun b o e=>aS _ e
 refine⟨(s.heap.push {cls:=.type "range",data:=.fields #[.int lo t,.int hi u,.int 1 v]}).objs.size,[(s.heap.push {cls:=.type "range",data:=.fields #[.int lo t,.int hi u,.int 1 v]}).objs.size],_,_,H,rfl,
  I1.kept (t':=tk) fun b o e=>aS _ e,auY _ lo (hi-lo).toNat,?_,fun b hb=>?_,q⟩
 ·have e1:lo+((0:Nat):Int)*1=lo:=by simp
  have e2:(((hi-lo).toNat:Nat):Int)-((0:Nat):Int)=Builtin.Range.rangeSize lo hi 1:=by rw[rangeSize_one];split<;>omega
  show IsRangeIter _ _ (lo+((0:Nat):Int)*1) ((((hi-lo).toNat:Nat):Int)-((0:Nat):Int)) 1
  rw[e1,e2]
  exact bC _ rfl
 ·have e:b=(s.heap.push {cls:=.type "range",data:=.fields #[.int lo t,.int hi u,.int 1 v]}).objs.size:=by simpa using hb
  subst e
  exact I1.fpOk (aO _) (I1.hok.fresh (aO _))
noncomputable def aDP(ta:TA):TI:=fun σ H R=>ta σ H fun vs H1=>∃j:Int,vs=[.int j]/\ -(2^62)<=j/\j<2^62/\R (Itr 0 j.toNat) H1
noncomputable def aDE(ta:TA):TI:=fun σ H R=>ta σ H fun vs H1=>∃i j:Int,vs=[.int i,.int j]/\(-(2^62)<=i/\i<2^62/\ -(2^62)<=j/\j<2^62)/\R (Itr i (j-i).toNat) H1
theorem ayL{a:Expr}{ta:TA}{p pos:Pos}(hg:Gl X "range")(hm:X.mg "range"=none)(ha:PA X [a] ta)(hs:starEach [a] X.env=[(false,eval a X.env)]:=by rfl):PI X tg (.Call (.Name "range" p) [a] [] pos) (aDP ta):=by
 intro pins s σ H R I h
 refine Call_ (aiB I hg hm dW (PyProof.Rows.callWith_type1 (thn (ha pos pins s σ H _ I h) fun us s1 ⟨vs,H1,I1,r1,q1⟩=>?_) hs rfl))
 obtain⟨j,e,q1,q2,q⟩:=q1
 subst e
 cases r1 with
 |cons r rr=>
  cases rr
  obtain⟨t,rfl⟩:=r
  exact call_range_1 (as9 I1 (by omega) (by omega) q1 q2 (by simpa using q))
theorem axQ{a b:Expr}{ta:TA}{p pos:Pos}(hg:Gl X "range")(hm:X.mg "range"=none)(ha:PA X [a,b] ta)(hs:starEach [a,b] X.env=[(false,eval a X.env),(false,eval b X.env)]:=by rfl)(hs2:starEach [b] X.env=[(false,eval b X.env)]:=by rfl):
  PI X tg (.Call (.Name "range" p) [a,b] [] pos) (aDE ta):=by
 intro pins s σ H R I h
 refine Call_ (aiB I hg hm dW (PyProof.Rows.callWith_type1 (thn (ha pos pins s σ H _ I h) fun us s1 ⟨vs,H1,I1,r1,q1⟩=>?_) (by rw[hs,hs2]) (by rw[hs2];rfl)))
 obtain⟨i,j,e,⟨q1,q2,q3,q4⟩,q⟩:=q1
 subst e
 cases r1 with
 |cons r rr=>
  cases rr with
  |cons r' rr=>
   cases rr
   obtain⟨t,rfl⟩:=r
   obtain⟨t',rfl⟩:=r'
   exact call_range_2 (as9 I1 q1 q2 q3 q4 q)
noncomputable def aK4(wi:TI)(g:TG)(tb:TS):TS:=fun D σ H=>wi σ H fun J H1=>∃W:Nat->Nat->St->Hp->Prop,(∃m,W 0 m σ H1)/\∀i m σ H,W i m σ H->
 (J.stop i H/\D.nx σ H)∨(J.go i H/\∃N:St->Hp->Prop,(∀σ' H',N σ' H'->∃m',m'<m/\W (i+1) m' σ' H')/\∀x H',J.yld i H x H'->g x σ H' fun σ2 H2=>tb {D with nx:=N,ct:=N,bk:=D.nx} σ2 H2)
noncomputable def ag1(fp:List Addr)(h:Heap):List (Addr×Obj):=fp.filterMap fun b=>(h.get? b).map fun o=>(b,o)
theorem ab7{fp:List Addr}{h:Heap}{b:Addr}{o:Obj}(hb:b∈fp)(e:h.get? b=some o):(b,o)∈ag1 fp h:=dE.mpr ⟨b,hb,by rw[e];rfl⟩
theorem axU{fp:List Addr}{h:Heap}{p:Addr×Obj}(hp:p∈ag1 fp h):p.1∈fp/\h.get? p.1=some p.2:=by
 obtain⟨b,hb,e⟩:=dE.mp hp
 cases q:h.get? b with
 |none=>rw[q] at e;cases e
 |some o=>
  rw[q] at e
  have e':(b,o)=p:=a8 e
  subst e'
  exact⟨hb,q⟩
theorem Inv.pinned{pins:List (Addr×Obj)}{σ:St}{H:Hp}{s:Shared}{fp:List Addr}(I:Inv X pins σ H s)(hf:∀b∈fp,adY X pins H b)(ho:∀b∈fp,∃o,s.heap.get? b=some o/\∀v,o.data≠ .cell v):Inv X (pins++ag1 fp s.heap) σ H s:=
 I.pins_of fun p hp=>(bK.mp hp).elim (fun z=>I.pin p (bV _ z)) fun z=>by
  obtain⟨hb,e⟩:=axU z
  obtain⟨f0,f1,f2,_⟩:=hf p.1 hb
  obtain⟨o,e',d⟩:=ho p.1 hb
  rw[e] at e';cases e'
  exact⟨e,f0,f1,f2,d⟩
theorem Inv.unpinned{pins pl:List (Addr×Obj)}{σ:St}{H:Hp}{s:Shared}(I:Inv X (pins++pl) σ H s):Inv X pins σ H s:=I.pins_of fun p hp=>I.pin p (bV _ (List.mem_append_left _ hp))
theorem aEN{iter:Expr}{body:List Stmt}{wi:TI}{g:TG}{tb:TS}{pos:Pos}(hp:PassesOwn (model X.prog X.w) X.A X.env X.xe)(hc:X.calm=true)(hi:PI X tg iter wi)(hg:PG X tg g)(hb:PSs X body tb)
  (hs:∀x,foldedSetIterable iter X.env x=pure x:=by intro _;rfl):PS X (.For tg iter body [] pos) (aK4 wi g tb):=by
 intro pins s σ H D I h
 refine wpAny_For (thn (hi pins s σ H _ I h) fun v s1 h1=>thn h1 fun itv s2 h2=>?_) hs
 obtain⟨it,fp,tn,J,H2,e,I2,T,st2,f2,W,⟨m0,w0⟩,turn⟩:=h2
 subst e
 -- what stays true of the iterator's objects through the loop
 have stat:∀{H':Hp},(∀b∈fp,H' b=none)->∀b∈fp,adY X pins H' b:=fun hn b hb=>⟨hn b hb,(f2 b hb).2⟩
 refine codeAny_forLoop_any (fun n s'=>∃i σ' H',Inv X pins σ' H' s'/\tn i s'.heap/\(∀b∈fp,H' b=none)/\W i n σ' H') ?_ m0 ⟨0,σ,H2,I2,st2,fun b hb=>(f2 b hb).1,w0⟩
 rintro n s3 ⟨i,σ3,H3,I3,st3,fr3,w3⟩
 rcases turn i n σ3 H3 w3 with ⟨stop,qn⟩ | ⟨go,N,hN,step⟩
 ·refine dL hp (thn (T.done X rfl rfl rfl hc i pins s3 σ3 H3 X.xe I3 (stat fr3) st3 stop) fun r s4 ⟨hr,I4⟩=>?_)
  subst hr
  exact wpAny_execs_nil ⟨σ3,H3,I4,qn⟩
 ·refine dL hp (thn (T.item X rfl rfl rfl hc i pins s3 σ3 H3 X.xe I3 (stat fr3) st3 go) fun r s4 ⟨u,hr,h4⟩=>?_)
  subst hr
  refine dL hp (thn h4 fun _ s5 ⟨x,H5,I5,r5,y5,st5,fr5⟩=>?_)
  have I5':=I5.pinned (stat fr5) (T.obj _ _ st5)
  refine dL hp (thn (hg _ s5 σ3 H5 x u _ I5' r5 (step x H5 y5)) fun _ s6 ⟨σ6,H6,I6,q6⟩=>?_)
  refine dL hp (thn (hb _ s6 σ6 H6 _ I6 q6) fun f s7 q7=>?_)
  have again:∀{σ7:St} {H7:Hp},Inv X (pins++ag1 fp s5.heap) σ7 H7 s7->N σ7 H7->∃m,m<n/\∃i σ' H',Inv X pins σ' H' s7/\tn i s7.heap/\(∀b∈fp,H' b=none)/\W i m σ' H':=fun {σ7 H7} I7 n7=>by
   obtain⟨m',hm,w7⟩:=hN σ7 H7 n7
   refine⟨m',hm,i+1,σ7,H7,I7.unpinned,T.keep _ _ _ st5 fun b hb o e=>(I7.pin (b,o) (bV _ (bV _ (ab7 hb e)))).1,fun b hb=>?_,w7⟩
   obtain⟨o,e,d⟩:=T.obj _ _ st5 b hb
   exact (I7.pin (b,o) (bV _ (bV _ (ab7 hb e)))).2.1
  cases f with
  |next=>obtain⟨σ7,H7,I7,n7⟩:=q7;exact again I7 n7
  |cont=>obtain⟨σ7,H7,I7,n7⟩:=q7;exact again I7 n7
  |brk=>obtain⟨σ7,H7,I7,q7⟩:=q7;exact⟨σ7,H7,I7.unpinned,q7⟩
  |ret v=>obtain⟨x7,σ7,H7,I7,r7,q7⟩:=q7;exact⟨x7,σ7,H7,I7.unpinned,r7,q7⟩
end
theorem abT{K:FG}{a:Addr}{xs:List V}{g:TG}{tb:TS}{D:Ends}{σ:St}{H:Hp}(Pv:Nat->St->Hp->Prop)(h0:Pv 0 σ H)(hl:∀i σ H,i<=xs.length->Pv i σ H->SqL K H a xs)
  (hs:∀i x σ H,xs[i]? =some x->Pv i σ H->g x σ H fun σ2 H2=>tb {D with nx:=Pv (i+1),ct:=Pv (i+1),bk:=D.nx} σ2 H2) (hd:∀σ H,Pv xs.length σ H->D.nx σ H):
  ∃W:Nat->Nat->St->Hp->Prop,(∃m,W 0 m σ H)/\∀i m σ H,W i m σ H->
   ((Itl K a).stop i H/\D.nx σ H)∨((Itl K a).go i H/\∃N:St->Hp->Prop,(∀σ' H',N σ' H'->∃m',m'<m/\W (i+1) m' σ' H')/\∀x H',(Itl K a).yld i H x H'->g x σ H' fun σ2 H2=>tb {D with nx:=N,ct:=N,bk:=D.nx} σ2 H2):=by
 refine⟨fun i m σ H=>m=xs.length-i/\i<=xs.length/\Pv i σ H,⟨xs.length,by simp,aZ _,h0⟩,?_⟩
 rintro i m σ H ⟨rfl,hi,p⟩
 have q:=hl i σ H hi p
 by_cases hlt:i<xs.length
 ·refine .inr ⟨⟨xs,xs[i],q,by simp[hlt]⟩,Pv (i+1),fun σ' H' p'=>⟨xs.length-(i+1),by omega,rfl,hlt,p'⟩,fun x H' y=>?_⟩
  obtain⟨e,y⟩:=y
  subst e
  exact hs i x σ _ (y xs q) p
 ·have e:i=xs.length:=by omega
  subst e
  exact .inl ⟨⟨xs,q,aO _⟩,hd σ H p⟩
theorem ak4{K:FG}{a:Addr}{xs:List V}{g:TG}{tb:TS}{D:Ends}{σ:St}{H:Hp}(Pv:Nat->St->Hp->Prop)(h0:Pv 0 σ H)(hl:∀i σ H,i<=xs.length->Pv i σ H->SqT K H a xs)
  (hs:∀i x σ H,xs[i]? =some x->Pv i σ H->g x σ H fun σ2 H2=>tb {D with nx:=Pv (i+1),ct:=Pv (i+1),bk:=D.nx} σ2 H2) (hd:∀σ H,Pv xs.length σ H->D.nx σ H):
  ∃W:Nat->Nat->St->Hp->Prop,(∃m,W 0 m σ H)/\∀i m σ H,W i m σ H->
   ((Itt K a).stop i H/\D.nx σ H)∨((Itt K a).go i H/\∃N:St->Hp->Prop,(∀σ' H',N σ' H'->∃m',m'<m/\W (i+1) m' σ' H')/\∀x H',(Itt K a).yld i H x H'->g x σ H' fun σ2 H2=>tb {D with nx:=N,ct:=N,bk:=D.nx} σ2 H2):=by
 refine⟨fun i m σ H=>m=xs.length-i/\i<=xs.length/\Pv i σ H,⟨xs.length,by simp,aZ _,h0⟩,?_⟩
 rintro i m σ H ⟨rfl,hi,p⟩
 have q:=hl i σ H hi p
 by_cases hlt:i<xs.length
 ·refine .inr ⟨⟨xs,xs[i],q,by simp[hlt]⟩,Pv (i+1),fun σ' H' p'=>⟨xs.length-(i+1),by omega,rfl,hlt,p'⟩,fun x H' y=>?_⟩
  obtain⟨e,y⟩:=y
  subst e
  exact hs i x σ _ (y xs q) p
 ·have e:i=xs.length:=by omega
  subst e
  exact .inl ⟨⟨xs,q,aO _⟩,hd σ H p⟩
theorem afS{lo:Int}{n:Nat}{g:TG}{tb:TS}{D:Ends}{σ:St}{H:Hp}(Pv:Nat->St->Hp->Prop)(h0:Pv 0 σ H)
  (hs:∀i σ H,i<n->Pv i σ H->g (.int (lo+i)) σ H fun σ2 H2=>tb {D with nx:=Pv (i+1),ct:=Pv (i+1),bk:=D.nx} σ2 H2) (hd:∀σ H,Pv n σ H->D.nx σ H):
  ∃W:Nat->Nat->St->Hp->Prop,(∃m,W 0 m σ H)/\∀i m σ H,W i m σ H->
   ((Itr lo n).stop i H/\D.nx σ H)∨((Itr lo n).go i H/\∃N:St->Hp->Prop,(∀σ' H',N σ' H'->∃m',m'<m/\W (i+1) m' σ' H')/\∀x H',(Itr lo n).yld i H x H'->g x σ H' fun σ2 H2=>tb {D with nx:=N,ct:=N,bk:=D.nx} σ2 H2):=by
 refine⟨fun i m σ H=>m=n-i/\i<=n/\Pv i σ H,⟨n,by simp,aZ _,h0⟩,?_⟩
 rintro i m σ H ⟨rfl,hi,p⟩
 by_cases hlt:i<n
 ·refine .inr ⟨hlt,Pv (i+1),fun σ' H' p'=>⟨n-(i+1),by omega,rfl,hlt,p'⟩,fun x H' y=>?_⟩
  obtain⟨e,y⟩:=y
  subst e y
  exact hs i σ _ hlt p
 ·have e:i=n:=by omega
  subst e
  exact .inl ⟨aO _,hd σ H p⟩
noncomputable abbrev R2:=V->V->Hp->VK->Prop
noncomputable def OpR(X:Cx)(f:Value->Value->Sem Value)(r:R2):Prop:=
 ∀(pins:List (Addr×Obj)) (s:Shared) (σ:St) (H:Hp) (x y:V) (v u:Value) (Q:VK),Inv X pins σ H s->RelV x v->RelV y u->r x y H Q->
  wpAny (model X.prog X.w) X.A (f v u) (EP X pins σ Q) X.xe s
noncomputable def UnR(X:Cx)(f:Value->Sem Value)(r:V->Hp->VK->Prop):Prop:=
 ∀(pins:List (Addr×Obj)) (s:Shared) (σ:St) (H:Hp) (x:V) (v:Value) (Q:VK),Inv X pins σ H s->RelV x v->r x H Q->
  wpAny (model X.prog X.w) X.A (f v) (EP X pins σ Q) X.xe s
noncomputable def ad6(X:Cx)(f:Value)(r:List V->Hp->VK->Prop):Prop:=
 ∀(pins:List (Addr×Obj)) (s:Shared) (σ:St) (H:Hp) (xs:List V) (us:List Value) (Q:VK),Inv X pins σ H s->Vals xs us->r xs H Q->
  wpAny (model X.prog X.w) X.A (call f us) (EP X pins σ Q) X.xe s
noncomputable def tOp(r:R2)(ta tb:TE):TE:=fun σ H Q=>ta σ H fun x H1=>tb σ H1 fun y H2=>r x y H2 Q
noncomputable def tUn(r:V->Hp->VK->Prop)(ta:TE):TE:=fun σ H Q=>ta σ H fun x H1=>r x H1 Q
noncomputable def rI(C:Int->Int->Prop)(g:Int->Int->V):R2:=fun x y H Q=>∃i j,x=.int i/\y=.int j/\C i j/\Q (g i j) H
noncomputable def rI0(g:Int->Int->V):R2:=fun x y H Q=>∃i j,x=.int i/\y=.int j/\Q (g i j) H
noncomputable def rU(g:Int->V):V->Hp->VK->Prop:=fun x H Q=>∃i,x=.int i/\Q (g i) H
section
variable{X:Cx}{a b c:Expr}{ta tb tc:TE}{pos:Pos}
theorem aF2(ha:PE X a ta)(hb:PE X b tb){pins:List (Addr×Obj)}{s:Shared}{σ:St}{H:Hp}{R:V->V->Hp->Prop}(I:Inv X pins σ H s)
  (h:ta σ H fun x H1=>tb σ H1 fun y H2=>R x y H2) {Q:Value->Shared->Prop} {f:Value->Value->Sem Value}
  (hf:∀v u s2 x y H2,Inv X pins σ H2 s2->RelV x v->RelV y u->R x y H2->wpAny (model X.prog X.w) X.A (f v u) Q X.xe s2):
  wpAny (model X.prog X.w) X.A (eval a X.env) (fun v s₁=>wpAny (model X.prog X.w) X.A (eval b X.env) (fun u s₂=>wpAny (model X.prog X.w) X.A (f v u) Q X.xe s₂) X.xe s₁) X.xe s:=by
 refine thn (ha pins s σ H _ I h) fun v s1 ⟨x,H1,I1,r1,q1⟩=>?_
 refine thn (hb pins s1 σ H1 _ I1 q1) fun u s2 ⟨y,H2,I2,r2,q2⟩=>?_
 exact hf v u s2 x y H2 I2 r1 r2 q2
theorem aJG{op:Operator}{r:R2}(ho:OpR X (binaryOp op) r)(ha:PE X a ta)(hb:PE X b tb):PE X (.BinOp a op b pos) (tOp r ta tb):=by
 intro pins s σ H Q I h
 exact wpAny_BinOp (aF2 ha hb I h fun v u s2 x y H2 I2 rx ry q=>ho pins s2 σ H2 x y v u Q I2 rx ry q)
theorem aN4{op:UnaryOp}{r:V->Hp->VK->Prop}(ho:UnR X (unaryOp op) r)(ha:PE X a ta):PE X (.UnaryOp op a pos) (tUn r ta):=by
 intro pins s σ H Q I h
 exact UnaryOp_ (thn (ha pins s σ H _ I h) fun v s1 ⟨x,H1,I1,r1,q1⟩=>ho pins s1 σ H1 x v Q I1 r1 q1)
theorem opI{f:Value->Value->Sem Value}{C:Int->Int->Prop}{g:Int->Int->Int}
  (rule:∀(i j:Int) (t u:Tok) (s:Shared) (Q:Value->Shared->Prop) (E:Value->Shared->Prop),C i j->Q (.int (g i j) s.toks) {s with toks:=s.toks+1}->wpAny (model X.prog X.w) X.A (f (.int i t) (.int j u)) Q E s):
  OpR X f (rI C fun i j=>.int (g i j)):=by
 intro pins s σ H x y v u Q I rx ry h
 obtain⟨i,j,rfl,rfl,hc,q⟩:=h
 obtain⟨t,rfl⟩:=rx
 obtain⟨t',rfl⟩:=ry
 exact rule i j t t' s _ _ hc ⟨.int (g i j),H,I.tok _,⟨_,rfl⟩,q⟩
theorem aCK{f:Value->Value->Sem Value}{g:Int->Int->Int}
  (rule:∀(i j:Int) (t u:Tok) (s:Shared) (Q:Value->Shared->Prop) (E:Value->Shared->Prop),Q (.int (g i j) s.toks) {s with toks:=s.toks+1}->wpAny (model X.prog X.w) X.A (f (.int i t) (.int j u)) Q E s):
  OpR X f (rI0 fun i j=>.int (g i j)):=by
 intro pins s σ H x y v u Q I rx ry h
 obtain⟨i,j,rfl,rfl,q⟩:=h
 obtain⟨t,rfl⟩:=rx
 obtain⟨t',rfl⟩:=ry
 exact rule i j t t' s _ _ ⟨.int (g i j),H,I.tok _,⟨_,rfl⟩,q⟩
theorem aCE{f:Value->Value->Sem Value}{g:Int->Int->Bool}
  (rule:∀(i j:Int) (t u:Tok) (s:Shared) (Q:Value->Shared->Prop) (E:Value->Shared->Prop),Q (.bool (g i j)) s->wpAny (model X.prog X.w) X.A (f (.int i t) (.int j u)) Q E s):
  OpR X f (rI0 fun i j=>.bl (g i j)):=by
 intro pins s σ H x y v u Q I rx ry h
 obtain⟨i,j,rfl,rfl,q⟩:=h
 obtain⟨t,rfl⟩:=rx
 obtain⟨t',rfl⟩:=ry
 exact rule i j t t' s _ _ ⟨.bl (g i j),H,I,rfl,q⟩
noncomputable def aCL(i j:Int):Prop:=0<j/\j<1073741824
noncomputable def aBG(i j:Int):Prop:=0<=j/\j<=1000000/\i.natAbs<2^64
noncomputable def CMul(i j:Int):Prop:=(-(2^64)<i/\i<2^64)∨(-(2^64)<j/\j<2^64)
theorem CMul.ok{i j:Int}(h:CMul i j):IntMulOk i j:=by
 rcases h with ⟨h1,h2⟩ | ⟨h1,h2⟩
 ·exact .of_left (intBits_le_64 h1 h2)
 ·exact .of_right (intBits_le_64 h1 h2)
theorem avA(k:Nat):(0:Int)<=2^k:=by
 rw[two_pow_cast]
 exact c5 _
theorem aES:OpR X (binaryOp .Add) (rI0 fun i j=>.int (i+j)):=aCK fun _ _ _ _ _ _ _ q=>add_int q
theorem aFR:OpR X (binaryOp .Sub) (rI0 fun i j=>.int (i-j)):=aCK fun _ _ _ _ _ _ _ q=>sub_int q
theorem aFM:OpR X (binaryOp .Mult) (rI CMul fun i j=>.int (i*j)):=opI fun _ _ _ _ _ _ _ hc q=>mul_int q hc.ok
theorem aCV:OpR X (binaryOp .FloorDiv) (rI aCL fun i j=>.int (i / j)):=opI fun i j _ _ _ _ _ hc q=>by
 have h1:(0:Int)<j:=hc.1
 have h2:j<1073741824:=hc.2
 exact floordiv_int (by omega) (by rw[Int.fdiv_eq_ediv_of_nonneg i (by omega)];exact q) (.inl (PyProof.noPylong_small (by omega)))
theorem aE6:OpR X (binaryOp .Mod) (rI (fun _ j=>0<j) fun i j=>.int (i%j)):=opI fun i j _ _ _ _ _ hc q=>by
 have h1:(0:Int)<j:=hc
 exact mod_int' (by omega) (by rw[Int.fmod_eq_emod_of_nonneg i (by omega)];exact q)
theorem aE9:OpR X (binaryOp .Pow) (rI aBG fun i j=>.int (i^j.toNat)):=opI fun _ _ _ _ _ _ _ hc q=>pow_int_small hc.1 hc.2.1 hc.2.2 q
theorem aEK:OpR X (binaryOp .LShift) (rI aBG fun i j=>.int (i*2^j.toNat)):=opI fun _ _ _ _ _ _ _ hc q=>lshift_int_small hc.1 hc.2.1 hc.2.2 q
theorem aEP:OpR X (binaryOp .RShift) (rI (fun _ j=>0<=j) fun i j=>.int (i / 2^j.toNat)):=opI fun i j _ _ _ _ _ hc q=>
 rshift_int hc (by rw[Int.fdiv_eq_ediv_of_nonneg i (avA _)];exact q)
theorem aD8:OpR X (binaryOp .BitAnd) (rI0 fun i j=>.int (Builtin.bitAnd i j)):=aCK fun _ _ _ _ _ _ _ q=>and_int q
theorem aME:OpR X (binaryOp .BitOr) (rI0 fun i j=>.int (Builtin.bitOr i j)):=aCK fun _ _ _ _ _ _ _ q=>or_int q
theorem unI{f:Value->Sem Value}{g:Int->Int}
  (rule:∀(i:Int) (t:Tok) (s:Shared) (Q:Value->Shared->Prop) (E:Value->Shared->Prop),Q (.int (g i) s.toks) {s with toks:=s.toks+1}->wpAny (model X.prog X.w) X.A (f (.int i t)) Q E s):
  UnR X f (rU fun i=>.int (g i)):=by
 intro pins s σ H x v Q I rx h
 obtain⟨i,rfl,q⟩:=h
 obtain⟨t,rfl⟩:=rx
 exact rule i t s _ _ ⟨.int (g i),H,I.tok _,⟨_,rfl⟩,q⟩
theorem aFE:UnR X (unaryOp .USub) (rU fun i=>.int (-i)):=unI fun _ _ _ _ _ q=>neg_int q
end
noncomputable def aE7:V->V->Bool
 |.non,.non=>true | .non,.int _=>true | .int _,.non=>true | .non,.bl _=>true | .bl _,.non=>true | .non,.str _=>true | .str _,.non=>true
 |.int _,.int _=>true | .bl _,.bl _=>true | .str _,.str _=>true | .byt _,.byt _=>true
 |.int _,.str _=>true | .str _,.int _=>true | .bl _,.str _=>true | .str _,.bl _=>true
 |_,_=>false
noncomputable def rEq:R2:=fun x y H Q=>aE7 x y=true/\Q (.bl (decide (x=y))) H
noncomputable def rNe:R2:=fun x y H Q=>aE7 x y=true/\Q (.bl (!decide (x=y))) H
theorem avX{i j:Int}:decide (V.int i=V.int j)=(i==j):=by
 rw[b7]
 simp
theorem ayQ{i j:Bool}:decide (V.bl i=V.bl j)=(i==j):=by
 rw[b7]
 simp
theorem awQ{i j:Str}:decide (V.str i=V.str j)=(i==j):=by
 rw[b7]
 simp
theorem aw5{i j:Array UInt8}:decide (V.byt i=V.byt j)=(i.toList==j.toList):=by
 rw[b7]
 cases i
 cases j
 simp
section
variable{X:Cx}{a b c:Expr}{ta tb tc:TE}{pos:Pos}
theorem aaO{pins:List (Addr×Obj)}{σ:St}{H:Hp}{s:Shared}{Q:VK}{k k':Bool}(I:Inv X pins σ H s)(q:Q (.bl k) H)(e:k=k'):EP X pins σ Q (.bool k') s:=by
 subst e
 exact⟨.bl k,H,I,rfl,q⟩
theorem aPA:OpR X (compareOp .Eq) rEq:=by
 intro pins s σ H x y v u Q I rx ry h
 obtain⟨hs,q⟩:=h
 cases x with
 |non=>
  cases rx
  cases y with
  |non=>cases ry;exact PySem.EqNone.eq_none_none (aaO I q (by simp))
  |bl j=>cases ry;exact PySem.EqNone.eq_none_bool (aaO I q (by simp))
  |int j=>obtain⟨t',rfl⟩:=ry;exact PySem.EqNone.eq_none_int (aaO I q (by simp))
  |str j=>obtain⟨t',rfl⟩:=ry;exact PySem.EqNone.eq_none_str (aaO I q (by simp))
  |_=>exact absurd (show false=true from hs) aW
 |bl i=>
  cases rx
  cases y with
  |non=>cases ry;exact PySem.EqNone.eq_bool_none (aaO I q (by simp))
  |bl j=>cases ry;exact eq_bool (aaO I q ayQ)
  |str j=>obtain⟨t',rfl⟩:=ry;exact PySem.EqMixed.eq_bool_str (aaO I q (by simp))
  |_=>exact absurd (show false=true from hs) aW
 |int i=>
  obtain⟨t,rfl⟩:=rx
  cases y with
  |non=>cases ry;exact PySem.EqNone.eq_int_none (aaO I q (by simp))
  |int j=>obtain⟨t',rfl⟩:=ry;exact eq_int (aaO I q avX)
  |str j=>obtain⟨t',rfl⟩:=ry;exact PySem.EqMixed.eq_int_str (aaO I q (by simp))
  |_=>exact absurd (show false=true from hs) aW
 |str i=>
  obtain⟨t,rfl⟩:=rx
  cases y with
  |non=>cases ry;exact PySem.EqNone.eq_str_none (aaO I q (by simp))
  |bl j=>cases ry;exact PySem.EqMixed.eq_str_bool (aaO I q (by simp))
  |int j=>obtain⟨t',rfl⟩:=ry;exact PySem.EqMixed.eq_str_int (aaO I q (by simp))
  |str j=>obtain⟨t',rfl⟩:=ry;exact eq_str (aaO I q awQ)
  |_=>exact absurd (show false=true from hs) aW
 |byt i=>
  obtain⟨t,rfl⟩:=rx
  cases y with
  |byt j=>obtain⟨t',rfl⟩:=ry;exact PySem.W.eq_bytes (aaO I q aw5)
  |_=>exact absurd (show false=true from hs) aW
 |_=>cases y<;>exact absurd (show false=true from hs) aW
theorem aI4:OpR X (compareOp .NotEq) rNe:=by
 intro pins s σ H x y v u Q I rx ry h
 obtain⟨hs,q⟩:=h
 cases x with
 |non=>
  cases rx
  cases y with
  |non=>cases ry;exact PySem.EqNone.ne_none_none (aaO I q (by simp))
  |bl j=>cases ry;exact PySem.EqNone.ne_none_bool (aaO I q (by simp))
  |int j=>obtain⟨t',rfl⟩:=ry;exact PySem.EqNone.ne_none_int (aaO I q (by simp))
  |str j=>obtain⟨t',rfl⟩:=ry;exact PySem.EqNone.ne_none_str (aaO I q (by simp))
  |_=>exact absurd (show false=true from hs) aW
 |bl i=>
  cases rx
  cases y with
  |non=>cases ry;exact PySem.EqNone.ne_bool_none (aaO I q (by simp))
  |bl j=>cases ry;exact ne_bool (aaO I q (congrArg not ayQ))
  |str j=>obtain⟨t',rfl⟩:=ry;exact PySem.EqMixed.ne_bool_str (aaO I q (by simp))
  |_=>exact absurd (show false=true from hs) aW
 |int i=>
  obtain⟨t,rfl⟩:=rx
  cases y with
  |non=>cases ry;exact PySem.EqNone.ne_int_none (aaO I q (by simp))
  |int j=>obtain⟨t',rfl⟩:=ry;exact ne_int (aaO I q (congrArg not avX))
  |str j=>obtain⟨t',rfl⟩:=ry;exact PySem.EqMixed.ne_int_str (aaO I q (by simp))
  |_=>exact absurd (show false=true from hs) aW
 |str i=>
  obtain⟨t,rfl⟩:=rx
  cases y with
  |non=>cases ry;exact PySem.EqNone.ne_str_none (aaO I q (by simp))
  |bl j=>cases ry;exact PySem.EqMixed.ne_str_bool (aaO I q (by simp))
  |int j=>obtain⟨t',rfl⟩:=ry;exact PySem.EqMixed.ne_str_int (aaO I q (by simp))
  |str j=>obtain⟨t',rfl⟩:=ry;exact ne_str (aaO I q (congrArg not awQ))
  |_=>exact absurd (show false=true from hs) aW
 |byt i=>
  obtain⟨t,rfl⟩:=rx
  cases y with
  |byt j=>obtain⟨t',rfl⟩:=ry;exact PySem.W.ne_bytes (aaO I q (congrArg not aw5))
  |_=>exact absurd (show false=true from hs) aW
 |_=>cases y<;>exact absurd (show false=true from hs) aW
theorem aH6:OpR X (compareOp .Lt) (rI0 fun i j=>.bl (decide (i<j))):=aCE fun _ _ _ _ _ _ _ q=>lt_int q
theorem aG8:OpR X (compareOp .LtE) (rI0 fun i j=>.bl (decide (i<=j))):=aCE fun _ _ _ _ _ _ _ q=>le_int q
theorem aI8:OpR X (compareOp .Gt) (rI0 fun i j=>.bl (decide (j<i))):=aCE fun _ _ _ _ _ _ _ q=>gt_int q
theorem aIU:OpR X (compareOp .GtE) (rI0 fun i j=>.bl (decide (j<=i))):=aCE fun _ _ _ _ _ _ _ q=>ge_int q
theorem axZ:OpR X (compareOp .In) (fun x y H Q=>∃i j,x=.str i/\y=.str j/\Q (.bl (!(Builtin.Str.occurrences j i 0 j.length 1).isEmpty)) H):=by
 intro pins s σ H x y v u Q I rx ry h
 obtain⟨i,j,rfl,rfl,q⟩:=h
 obtain⟨t,rfl⟩:=rx
 obtain⟨t',rfl⟩:=ry
 exact in_str (aaO I q rfl)
theorem aE0:OpR X (compareOp .Is) (fun x y H Q=>y=.non/\Q (.bl (decide (x=.non))) H):=by
 intro pins s σ H x y v u Q I rx ry h
 obtain⟨rfl,q⟩:=h
 cases ry
 refine is_none_gen (aaO I q ?_)
 cases x<;>first
  |(cases rx;rfl)
  |(obtain⟨t,rfl⟩:=rx;rfl)
theorem aC1:OpR X (compareOp .IsNot) (fun x y H Q=>y=.non/\Q (.bl (!decide (x=.non))) H):=by
 intro pins s σ H x y v u Q I rx ry h
 obtain⟨rfl,q⟩:=h
 cases ry
 refine isnot_none_gen (aaO I q ?_)
 cases x<;>first
  |(cases rx;rfl)
  |(obtain⟨t,rfl⟩:=rx;rfl)
theorem azN(b:Expr){op:CmpOp}(h:op≠ .In:=by decide)(h2:op≠ .NotIn:=by decide):behindInMarks op b=false:=by
 have e1:(op==CmpOp.In)=false:=by cases op<;>first | rfl | exact absurd rfl h
 have e2:(op==CmpOp.NotIn)=false:=by cases op<;>first | rfl | exact absurd rfl h2
 cases b<;>simp[behindInMarks,e1,e2]
theorem aCD{op:CmpOp}{r:R2}(ho:OpR X (compareOp op) r)(ha:PE X a ta)(hb:PE X b tb)(hm:behindInMarks op b=false):PE X (.Compare a [op] [b] pos) (tOp r ta tb):=by
 intro pins s σ H Q I h
 exact wpAny_Compare1 (aF2 ha hb I h fun v u s2 x y H2 I2 rx ry q=>ho pins s2 σ H2 x y v u Q I2 rx ry q) hm
noncomputable def awZ(t:TE):TT:=fun σ H Q=>t σ H fun x H'=>∃k,x=.bl k/\Q k H'
theorem aCM{op:CmpOp}{r:R2}(ho:OpR X (compareOp op) r)(ha:PE X a ta)(hb:PE X b tb)(hm:behindInMarks op b=false):PT X (.Compare a [op] [b] pos) (awZ (tOp r ta tb)):=by
 intro pins s σ H Q I h
 refine wpAny_isTrue_Compare1 (thn (ha pins s σ H _ I h) fun v s1 ⟨x,H1,I1,r1,q1⟩=>thn (hb pins s1 σ H1 _ I1 q1) fun u s2 ⟨y,H2,I2,r2,q2⟩=>
  thn (ho pins s2 σ H2 x y v u _ I2 r1 r2 q2) fun c s3 ⟨z,H3,I3,r3,k,e,q3⟩=>?_) hm
 subst e
 cases r3
 exact eE ⟨H3,I3,q3⟩
noncomputable def aqN(r r':R2)(ta tb tc:TE):TE:=fun σ H Q=>ta σ H fun x H1=>tb σ H1 fun y H2=>r x y H2 fun z H3=>∃k,z=.bl k/\
 (if k=true then tc σ H3 fun w' H4=>r' y w' H4 Q else Q (.bl false) H3)
theorem aA3{op op':CmpOp}{r r':R2}(ho:OpR X (compareOp op) r)(ho':OpR X (compareOp op') r')(ha:PE X a ta)(hb:PE X b tb)(hc:PE X c tc)
  (hm:lastMarks [op,op'] [b,c]=false:=by with_unfolding_all rfl):PE X (.Compare a [op,op'] [b,c] pos) (aqN r r' ta tb tc):=by
 intro pins s σ H Q I h
 refine Compare_chain (thn (ha pins s σ H _ I h) fun v s1 ⟨x,H1,I1,r1,q1⟩=>chain_link (thn (hb pins s1 σ H1 _ I1 q1) fun u s2 ⟨y,H2,I2,r2,q2⟩=>
  thn (ho pins s2 σ H2 x y v u _ I2 r1 r2 q2) fun d s3 ⟨z,H3,I3,r3,k,e,q3⟩=>?_)) hm
 subst e
 cases r3
 refine eE ?_
 cases k with
 |false=>exact ite_ff ⟨.bl false,H3,I3,rfl,q3⟩
 |true=>exact ite_tt (chain_last (thn (hc pins s3 σ H3 _ I3 q3) fun w' s4 ⟨z',H4,I4,r4,q4⟩=>ho' pins s4 σ H4 y z' u w' Q I4 r2 r4 q4))
theorem aAQ{op op':CmpOp}{r r':R2}(ho:OpR X (compareOp op) r)(ho':OpR X (compareOp op') r')(ha:PE X a ta)(hb:PE X b tb)(hc:PE X c tc)
  (hm:lastMarks [op,op'] [b,c]=false:=by with_unfolding_all rfl):PT X (.Compare a [op,op'] [b,c] pos) (awZ (aqN r r' ta tb tc)):=by
 intro pins s σ H Q I h
 refine isTrue_chain (thn (ha pins s σ H _ I h) fun v s1 ⟨x,H1,I1,r1,q1⟩=>test_link (thn (hb pins s1 σ H1 _ I1 q1) fun u s2 ⟨y,H2,I2,r2,q2⟩=>
  thn (ho pins s2 σ H2 x y v u _ I2 r1 r2 q2) fun d s3 ⟨z,H3,I3,r3,k,e,q3⟩=>?_)) hm
 subst e
 cases r3
 refine eE ?_
 cases k with
 |false=>
  obtain⟨k',e',q'⟩:=q3
  cases e'
  exact ite_ff ⟨H3,I3,q'⟩
 |true=>
  refine ite_tt (test_last (thn (hc pins s3 σ H3 _ I3 q3) fun w' s4 ⟨z',H4,I4,r4,q4⟩=>thn (ho' pins s4 σ H4 y z' u w' _ I4 r2 r4 q4) fun d' s5 ⟨z2,H5,I5,r5,k2,e2,q5⟩=>?_))
  subst e2
  cases r5
  exact eE ⟨H5,I5,q5⟩
theorem alT:(sizeLine:Nat)<2^63:=by rw[dQ];decide
theorem avD:OpR X (binaryOp .Add) (fun x y H Q=>∃i j,x=.str i/\y=.str j/\i.length+j.length<=sizeLine/\Q (.str (i++j)) H):=by
 intro pins s σ H x y v u Q I rx ry h
 obtain⟨i,j,rfl,rfl,hz,q⟩:=h
 obtain⟨t,rfl⟩:=rx
 obtain⟨t',rfl⟩:=ry
 exact add_str (fun t' tk=>⟨.str (i++j),H,I.tok _,⟨_,rfl⟩,q⟩) hz
theorem acE{x:V}{us:List Value}(r:Vals [x] us):∃u,us=[u]/\RelV x u:=by
 cases r with
 |cons r1 r2=>cases r2;exact⟨_,rfl,r1⟩
theorem ar4{x y:V}{us:List Value}(r:Vals [x,y] us):∃u w',us=[u,w']/\RelV x u/\RelV y w':=by
 cases r with
 |cons r1 r2=>
  cases r2 with
  |cons r3 r4=>cases r4;exact⟨_,_,rfl,r1,r3⟩
theorem az1:ad6 X (.builtin "abs") (fun xs H Q=>∃i,xs=[.int i]/\Q (.int (if i<0 then -i else i)) H):=by
 intro pins s σ H xs us Q I r h
 obtain⟨i,rfl,q⟩:=h
 obtain⟨u,rfl,t,rfl⟩:=acE r
 exact call_abs_int fun u tk=>⟨.int (if i<0 then -i else i),H,I.tok _,⟨_,rfl⟩,q⟩
theorem ax7:ad6 X (.type "int") (fun xs H Q=>(∃i,xs=[.int i]/\Q (.int i) H)∨∃k,xs=[.bl k]/\Q (.int (if k then 1 else 0)) H):=by
 intro pins s σ H xs us Q I r h
 rcases h with ⟨i,rfl,q⟩ | ⟨k,rfl,q⟩
 ·obtain⟨u,rfl,t,rfl⟩:=acE r
  exact call_int_int ⟨.int i,H,I,⟨_,rfl⟩,q⟩
 ·obtain⟨u,rfl,r1⟩:=acE r
  cases r1
  exact call_int_bool ⟨.int (if k then 1 else 0),H,I.tok _,⟨_,rfl⟩,q⟩
theorem apC:ad6 X (.type "str") (fun xs H Q=>∃i,xs=[.int i]/\i.natAbs.log2<1920/\Q (.str (toString i)) H):=by
 intro pins s σ H xs us Q I r h
 obtain⟨i,rfl,hz,q⟩:=h
 obtain⟨u,rfl,t,rfl⟩:=acE r
 exact PySem.P.str_of_int hz ⟨.str _,H,I.tok _,⟨_,rfl⟩,q⟩
theorem as2:ad6 X (.builtin "divmod") (fun xs H Q=>∃i j,xs=[.int i,.int j]/\aCL i j/\∀p,H p=none->Q (.ref p) (upd H p (.tup [.int (i / j),.int (i%j)]))):=by
 intro pins s σ H xs us Q I r h
 obtain⟨i,j,rfl,⟨h1,h2⟩,q⟩:=h
 obtain⟨u,w',rfl,⟨t,rfl⟩,⟨t',rfl⟩⟩:=ar4 r
 refine divmod_int (by omega) ?_ (.inl (PyProof.noPylong_small (by omega)))
 rw[Int.fdiv_eq_ediv_of_nonneg i (by omega),Int.fmod_eq_emod_of_nonneg i (by omega)]
 have hn:H s.heap.objs.size=none:=I.hok.fresh (aO _)
 refine⟨.ref s.heap.objs.size,_,?_,rfl,q _ hn⟩
 refine I.laid (fun b o e=>aS _ e) (aO _) ⟨by simp only[bF,List.length_nil];rw[dQ];decide,[.int (i / j) s.toks,.int (i%j) (s.toks+1)],.cons ⟨_,rfl⟩ (.cons ⟨_,rfl⟩ .nil),?_⟩
 exact⟨_,bC s.heap rfl,rfl,0,rfl⟩
end
structure ObjM(h:Heap)(x dx C:Addr)(mA:Str->Option Value):Prop where
 obj:h.get? x=some (PySem.W.instObj C dx)
 ns:h.Ns1 dx mA
 ne:dx≠x
theorem axL{h:Heap}{dx:Addr}{mA:Str->Option Value}(n:h.Ns1 dx mA):∃od,h.get? dx=some od/\∀name,PySem.W.lookIn name od=some (mA name):=by
 obtain⟨o,es,ep,ho,hd,hk,_,hm⟩:=n
 refine⟨o,ho,fun name=>?_⟩
 have e:=hm name
 unfold nsFind findBy at e
 rw[←Array.find?_toList] at e
 unfold PySem.W.lookIn
 rw[hd]
 dsimp only
 split
 ·rename_i y q
  rw[q] at e
  exact congrArg some e
 ·rename_i q
  rw[q] at e
  have a:es.toList.any (·.refKey)=false:=by
   rw[cJ]
   intro y hy
   obtain⟨z,t,hkey⟩:=hk y (Array.mem_toList_iff.mp hy)
   simp[DictEntry.refKey,hkey]
  have a':¬es.toList.any (·.refKey)=true:=by rw[a];exact aW
  rw[if_neg a']
  exact congrArg some e
theorem ObjM.look{h:Heap}{x dx C:Addr}{mA:Str->Option Value}(I:ObjM h x dx C mA):∃od,PySem.W.InstAt h x (PySem.W.instObj C dx) C (some od)/\∀name,PySem.W.lookIn name od=some (mA name):=
 let ⟨od,ho,hl⟩:=axL I.ns
 ⟨od,⟨I.obj,rfl,rfl,ho⟩,hl⟩
section
variable{prog:Program}{w:World}{A:Around}{E:Value->Shared->Prop}{s:Shared}{K:FG}{x dx C f:Addr}{mA:Str->Option Value}{name:Str}{v:Value}
theorem aB1{expr:Bool}{Q:Value->Shared->Prop}(X:K.In s.heap)(I:ObjM s.heap x dx C mA)(hg:PySem.W.plainGet K C name=true)(hh:PySem.W.hasDictIn K C=true)
  (ha:PySem.W.findIn K (.ref C) name=some none) (hv:mA name=some v) (hv':PySem.W.handedIn v=true) (h:Q v {s with toks:=s.toks+1}):
  wpAny (model prog w) A (getAttr (.ref x) name expr) Q E s:=by
 obtain⟨od,J,hl⟩:=I.look
 exact PySem.W.get_value X J (PySem.W.plainGet_of hg).1 (PySem.W.findObj_own hh ha rfl (by rw[hl,hv])) hv' h
theorem azA{pl:Sem Bool}{Q:Value×List Value->Shared->Prop}(X:K.In s.heap)(I:ObjM s.heap x dx C mA)(hg:PySem.W.plainGet K C name=true)
  (hf:PySem.W.findIn K (.ref C) name=some (some (.ref f))) (ht:PySem.W.isFn K (.ref f)=true) (hv:mA name=none) (h:Q (.ref f,[.ref x]) s):
  wpAny (model prog w) A (getMethod (.ref x) name pl) Q E s:=by
 obtain⟨od,J,hl⟩:=I.look
 exact PySem.W.method_fn X J (PySem.W.plainGet_of hg).1 (PySem.W.plainGet_of hg).2 hf (beq_iff_eq.mp ht) (by show (PySem.W.lookIn name od).map (·.isSome)=some false;rw[hl,hv];rfl) h
theorem aCT{ns:List Str}{Q:Unit->Shared->Prop}(X:K.In s.heap)(I:ObjM s.heap x dx C mA)
  (hs:PySem.W.findIn K (.ref C) "__setattr__"=some (some (.builtin "object.__setattr__"))) (hp:PySem.W.plainOver K C=true) (ht:PySem.W.takerIn K C name=some none) (hh:PySem.W.hasDictIn K C=true)
  (hw:PySem.Within mA ns) (hsz:ns.length<=sizeLine)
  (h:∀h',ObjM h' x dx C (fun y=>if y=name then some v else mA y)->Heap.SameBut dx s.heap h'->Q () {s with heap:=h',toks:=s.toks+2}):
  wpAny (model prog w) A (setAttr (.ref x) name v) Q E s:=by
 obtain⟨od,J,hl⟩:=I.look
 refine PySem.W.set_plain X J hs (PySem.W.osa_open (s:={s with toks:=s.toks+1}) (r:=none) X J hp ht fun b=>?_)
 obtain⟨cd,hc,hd'⟩:=PySem.W.any_some hh
 have hx:s.heap.get? x=some ⟨.ref C,some dx,.plain,#[]⟩:=I.obj
 refine dN (eC (dN (dN (wpAny_loadPart hx (dN (PySem.W.Looks.here (s:={s with toks:=s.toks+1}) (PySem.W.looks_clsIn X hc) ?_))))))
 rw[hd']
 refine eC (a:=some dx) (dN (eC (dN ?_)))
 refine wpAny_nsSet1 (s:={s with toks:=s.toks+1}) I.ns fun h' hn2 hs2=>?_
 obtain⟨oD,esD,epD,hoD,hdD,hcD⟩:=hn2.count (PySem.Within.cons name v hw)
 refine dN (wpAny_lookBehind hoD (by rw[hdD];exact pastItsLine_dict (bJ hcD (by rw[bF];omega))) ?_)
 exact eC (h _ ⟨(hs2.2 _ (Ne.symm I.ne)).trans I.obj,hn2,I.ne⟩ hs2)
theorem azU{R:Result->Shared->Prop}{vs:List Value}{kw:List (Str×Value)}(X:K.In s.heap)(hm:PySem.W.makesIn K C=true)
  (hi:PySem.W.findIn K (.ref C) "__init__"=some (some (.ref f))) (hf:PySem.W.typeIn K (.ref f)=some (.type "function"))
  (h:codeAny (model prog w) (A.under (.builtin "type.__call__" ⟨.ref C::vs,kw⟩)) (.call (.ref f) ⟨.ref (s.heap.objs.size+1)::vs,kw⟩) (PySem.W.InitBack (s.heap.objs.size+1) R)
   {s with heap:=(s.heap.push PySem.W.emptyDict).push (PySem.W.instObj C s.heap.objs.size)}):
  codeAny (model prog w) A (.call (.ref C) ⟨vs,kw⟩) R s:=by
 obtain⟨hh,g,d,t,os⟩:=s
 exact PySem.W.make_core (PySem.W.makes_of X hm) (PySem.W.looks_findIn X hi) (fun self=>PySem.W.bind_fn X self hf) (.inl rfl) h
theorem axY{R:Result->Shared->Prop}(X:K.In s.heap)(hm:PySem.W.makesIn K C=true)
  (hi:PySem.W.findIn K (.ref C) "__init__"=some (some (.builtin "object.__init__")))
  (hb:∀self,PySem.W.Looks (model prog w) s.heap (bindSpecial (.builtin "object.__init__") self) (.builtin "object.__init__",[self]))
  (h:codeAny (model prog w) (A.under (.builtin "type.__call__" ⟨[.ref C],[]⟩)) (.call (.builtin "object.__init__") ⟨[.ref (s.heap.objs.size+1)],[]⟩) (PySem.W.InitBack (s.heap.objs.size+1) R)
   {s with heap:=(s.heap.push PySem.W.emptyDict).push (PySem.W.instObj C s.heap.objs.size)}):
  codeAny (model prog w) A (.call (.ref C) ⟨[],[]⟩) R s:=by
 obtain⟨hh,g,d,t,os⟩:=s
 exact PySem.W.make_core (PySem.W.makes_of X hm) (PySem.W.looks_findIn X hi) hb (.inr ⟨rfl,rfl⟩) h
end
noncomputable def aaQ(f:Str)(v:V):List (Str×V)->List (Str×V)
 |[]=>[(f,v)]
 |(g,x)::r=>if g=f then (g,v)::r else (g,x)::aaQ f v r
theorem aaD(f g:Str)(v:V):∀fs:List (Str×V),(aaQ f v fs).lookup g=if g=f then some v else fs.lookup g
 |[]=>by
  show List.lookup g [(f,v)]=_
  by_cases h:g=f
  ·have hb:(g==f)=true:=beq_iff_eq.mpr h
   simp only[List.lookup,hb,if_pos h]
  ·have hb:(g==f)=false:=beq_eq_false_iff_ne.mpr h
   simp only[List.lookup,hb,if_neg h]
 |(k,x)::r=>by
  have ih:=aaD f g v r
  rw[show aaQ f v ((k,x)::r)=(if k=f then (k,v)::r else (k,x)::aaQ f v r) from rfl]
  by_cases hk:k=f
  ·rw[if_pos hk]
   by_cases h:g=k
   ·have hb:(g==k)=true:=beq_iff_eq.mpr h
    simp only[List.lookup,hb,if_pos (h.trans hk)]
   ·have hb:(g==k)=false:=beq_eq_false_iff_ne.mpr h
    simp only[List.lookup,hb,if_neg (fun e:g=f=>h (e.trans hk.symm))]
  ·rw[if_neg hk]
   by_cases h:g=k
   ·have hb:(g==k)=true:=beq_iff_eq.mpr h
    simp only[List.lookup,hb,if_neg (fun e:g=f=>hk (h.symm.trans e))]
   ·have hb:(g==k)=false:=beq_eq_false_iff_ne.mpr h
    simp only[List.lookup,hb]
    exact ih
theorem aiQ(f:Str)(v:V):∀fs:List (Str×V),f∈(aaQ f v fs).map (·.1)/\∀g,g∈fs.map (·.1)->g∈(aaQ f v fs).map (·.1)
 |[]=>⟨by simp[aaQ],fun g h=>by simp at h⟩
 |(k,x)::r=>by
  obtain⟨i1,i2⟩:=aiQ f v r
  rw[show aaQ f v ((k,x)::r)=(if k=f then (k,v)::r else (k,x)::aaQ f v r) from rfl]
  by_cases hk:k=f
  ·rw[if_pos hk]
   subst hk
   exact⟨by simp,fun g h=>by simpa using h⟩
  ·rw[if_neg hk]
   refine⟨?_,fun g h=>?_⟩
   ·rw[bR]
    exact bD _ i1
   ·rw[bR] at h ⊢
    rcases aR.mp h with e | e
    ·exact aR.mpr (.inl e)
    ·exact bD _ (i2 g e)
theorem ajC(f:Str)(v:V):∀fs:List (Str×V),(aaQ f v fs).length<=fs.length+1
 |[]=>by simp[aaQ]
 |(k,x)::r=>by
  have ih:=ajC f v r
  rw[show aaQ f v ((k,x)::r)=(if k=f then (k,v)::r else (k,x)::aaQ f v r) from rfl]
  by_cases hk:k=f
  ·rw[if_pos hk,bF,bF];omega
  ·rw[if_neg hk,bF,bF];omega
theorem RelO.some_of{v:V}{o:Option Value}(r:RelO (some v) o):∃u,o=some u/\RelV v u:=by
 cases o with
 |none=>exact (show False from r).elim
 |some u=>exact⟨u,rfl,r⟩
theorem RelO.none_of{o:Option Value}(r:RelO none o):o=none:=by
 cases o with
 |none=>rfl
 |some u=>exact (show False from r).elim
theorem ax2{v:V}{u:Value}(r:RelV v u):PySem.W.handedIn u=true:=by
 cases v with
 |non=>cases (show u=Value.none from r);rfl
 |bl b=>cases (show u=Value.bool b from r);rfl
 |int i=>obtain⟨t,e⟩:=(show ∃t,u=Value.int i t from r);cases e;rfl
 |str x=>obtain⟨t,e⟩:=(show ∃t,u=Value.str x t from r);cases e;rfl
 |byt b=>obtain⟨t,e⟩:=(show ∃t,u=Value.bytes b t from r);cases e;rfl
 |flt b=>obtain⟨t,e⟩:=(show ∃t,u=Value.float b t from r);cases e;rfl
 |ref a=>cases (show u=Value.ref a from r);rfl
 |ty n=>cases (show u=Value.type n from r);rfl
section
variable{P:Program}{w:World}{H H':Hp}{h h':Heap}{a C dx:Addr}{fs fs':List (Str×V)}
theorem apR(hok:HOk P w H h)(e:H a=some (.ins C dx fs)):∃mA,ObjM h a dx C mA/\(∀f,RelO (fs.lookup f) (mA f))/\PySem.Within mA (fs.map (·.1))/\fs.length<=1000/\H dx=some (.own a):=by
 obtain⟨d,z,ne,ob,mA,n,r,q⟩:=(show ObjOk P w H h a (.ins C dx fs) from hok a _ e)
 exact⟨mA,⟨ob,n,ne⟩,r,q,z,d⟩
end
structure Cls(K:FG)(C:Addr):Prop where
 pg:PySem.W.plainGet K C Str.empty=true
 hd:PySem.W.hasDictIn K C=true
 po:PySem.W.plainOver K C=true
 sa:PySem.W.findIn K (.ref C) "__setattr__"=some (some (.builtin "object.__setattr__"))
theorem Cls.get{K:FG}{C:Addr}(c:Cls K C)(f:Str):PySem.W.plainGet K C f=true:=c.pg
noncomputable def NoAttr(K:FG)(C:Addr)(f:Str):Prop:=PySem.W.findIn K (.ref C) f=some none
theorem NoAttr.taker{K:FG}{C:Addr}{f:Str}(n:NoAttr K C f):PySem.W.takerIn K C f=some none:=by
 unfold PySem.W.takerIn
 rw[show PySem.W.findIn K (.ref C) f=some none from n]
 rfl
structure Meth(K:FG)(C:Addr)(m:Str)(f:Addr):Prop where
 at_:PySem.W.findIn K (.ref C) m=some (some (.ref f))
 fn:PySem.W.isFn K (.ref f)=true
 kp:PySem.W.keepIn K (.ref f)=true
section
variable{X:Cx}{pins:List (Addr×Obj)}{σ:St}{H:Hp}{s:Shared}{a C dx:Addr}{fs:List (Str×V)}{f:Str}{v:V}{A:Around}{E:Value->Shared->Prop}
theorem au5{b:Bool}{Q:Value->Shared->Prop}(I:Inv X pins σ H s)(e:H a=some (.ins C dx fs))(c:Cls X.K C)(n:NoAttr X.K C f)(l:fs.lookup f=some v)
  (h:∀u s',Inv X pins σ H s'->RelV v u->Q u s'):wpAny (model X.prog X.w) A (getAttr (.ref a) f b) Q E s:=by
 obtain⟨mA,O,r,_,_,_⟩:=apR I.hok e
 obtain⟨u,hu,ru⟩:=RelO.some_of (v:=v) (o:=mA f) (by rw[←l];exact r f)
 exact aB1 I.kIn O (c.get f) c.hd n hu (ax2 ru) (h u _ (I.tok _) ru)
theorem amN{m:Str}{g:Addr}{pl:Sem Bool}{Q:Value×List Value->Shared->Prop}(I:Inv X pins σ H s)(e:H a=some (.ins C dx fs))(c:Cls X.K C)(k:Meth X.K C m g)(l:fs.lookup m=none)
  (h:Q (.ref g,[.ref a]) s):wpAny (model X.prog X.w) A (getMethod (.ref a) m pl) Q E s:=by
 obtain⟨mA,O,r,_,_,_⟩:=apR I.hok e
 have hn:mA m=none:=RelO.none_of (by rw[←l];exact r m)
 exact azA I.kIn O (c.get m) k.at_ k.fn hn h
theorem auZ{y:V}{u:Value}{Q:Unit->Shared->Prop}(I:Inv X pins σ H s)(e:H a=some (.ins C dx fs))(c:Cls X.K C)(n:NoAttr X.K C f)(hl:fs.length<1000)(ry:RelV y u)
  (h:∀s',Inv X pins σ (upd H a (.ins C dx (aaQ f y fs))) s'->Q () s'):wpAny (model X.prog X.w) A (setAttr (.ref a) f u) Q E s:=by
 obtain⟨mA,O,r,wi,_,ho⟩:=apR I.hok e
 have hz:(fs.map (·.1)).length<=sizeLine:=by rw[aM,dQ];omega
 refine aCT I.kIn O c.sa c.po n.taker c.hd wi hz fun h' O' sb=>h _ ?_
 have hd:∃o,h'.get? dx=some o:=let ⟨o,_,_,e',_⟩:=O'.ns;⟨o,e'⟩
 refine I.write (x:=a) (e:=dx) (by rw[e];exact True.intro) (.inr ho) (fun b q hb z=>(sb.2 b hb).trans z) hd ?_
 refine⟨by rw[aaH O.ne];exact ho,?_,O.ne,O'.obj,_,O'.ns,fun g=>?_,fun g hg=>?_⟩
 ·have:=ajC f y fs;omega
 ·show RelO ((aaQ f y fs).lookup g) (if g=f then some u else mA g)
  rw[aaD]
  by_cases q:g=f
  ·rw[if_pos q,if_pos q];exact ry
  ·rw[if_neg q,if_neg q];exact r g
 ·by_cases q:g=f
  ·rw[q];exact (aiQ f y fs).1
  ·refine (aiQ f y fs).2 g (wi g fun z=>hg ?_)
   show (if g=f then some u else mA g)=none
   rw[if_neg q];exact z
theorem Inv.made(I:Inv X pins σ H s):Inv X pins σ (upd (upd H s.heap.objs.size (.own (s.heap.objs.size+1))) (s.heap.objs.size+1) (.ins C s.heap.objs.size []))
  {s with heap:=(s.heap.push PySem.W.emptyDict).push (PySem.W.instObj C s.heap.objs.size)}:=by
 have e1:(s.heap.push PySem.W.emptyDict).get? s.heap.objs.size=some PySem.W.emptyDict:=bC s.heap rfl
 have e2:((s.heap.push PySem.W.emptyDict).push (PySem.W.instObj C s.heap.objs.size)).get? (s.heap.objs.size+1)=some (PySem.W.instObj C s.heap.objs.size):=by
  have:=bC (s.heap.push PySem.W.emptyDict) (o:=PySem.W.instObj C s.heap.objs.size) rfl
  rwa [cG] at this
 have e3:(s.heap.push PySem.W.emptyDict).Ns s.heap.objs.size (fun _=>none):=⟨PySem.W.emptyDict,#[],_,e1,rfl,(fun e he=>absurd he (by simp)),fun _=>rfl⟩
 have I1:=I.laid (a:=s.heap.objs.size) (o:=.own (s.heap.objs.size+1)) (h':=s.heap.push PySem.W.emptyDict) (t':=s.toks) (fun b u q=>aS _ q) (aO _) ⟨_,e1⟩
 refine I1.laid (a:=s.heap.objs.size+1) (o:=.ins C s.heap.objs.size []) (t':=s.toks) (fun b u q=>aS _ q) (Nat.le_of_eq (cG _ _)) ?_
 have ne:s.heap.objs.size≠s.heap.objs.size+1:=aV (cR _)
 refine⟨by rw[aaH ne,aaA],aZ _,ne,e2,fun _=>none,(Heap.Ns1.of_empty e3).at fun o q=>aS _ q,fun _=>True.intro,fun y hy=>absurd rfl hy⟩
theorem aA9{prog:Program}{w:World}{env:Env}{e:Expr}{f:Str}{pos:Pos}{s:Shared}{Q:Value->Shared->Prop}(hb:attributeBase e f env (eval e env)=eval e env)
  (h:wpAny (model prog w) A (eval e env) (fun o s₁=>wpAny (model prog w) A (getAttr o f true) Q E s₁) E s):wpAny (model prog w) A (eval (.Attribute e f pos) env) Q E s:=
 Attribute_any_ h (by rw[arm_eval_Attribute,hb])
end
noncomputable def aOS(K:FG)(ta:TE)(f:Str):TE:=fun σ H Q=>ta σ H fun x H1=>∃a C dx fs v,x=.ref a/\H1 a=some (.ins C dx fs)/\Cls K C/\NoAttr K C f/\fs.lookup f=some v/\Q v H1
noncomputable def aO2(K:FG)(ta tv:TE)(f:Str):TS:=fun D σ H=>tv σ H fun y H1=>ta σ H1 fun x H2=>∃a C dx fs,x=.ref a/\H2 a=some (.ins C dx fs)/\Cls K C/\NoAttr K C f/\fs.length<1000/\
 D.nx σ (upd H2 a (.ins C dx (aaQ f y fs)))
section
variable{X:Cx}{o e value:Expr}{f:Str}{pos pos' tpos:Pos}{ta tv:TE}
theorem aEE(he:PE X e ta)(hb:attributeBase e f X.env (eval e X.env)=eval e X.env):PE X (.Attribute e f pos) (aOS X.K ta f):=by
 intro pins s σ H Q I h
 refine aA9 hb (thn (he pins s σ H _ I h) fun u s1 ⟨x,H1,I1,rx,a,C,dx,fs,v,ex,ea,c,n,l,q⟩=>?_)
 subst ex
 obtain rfl:u=Value.ref a:=rx
 exact au5 I1 ea c n l fun u' s2 I2 ru=>⟨v,H1,I2,ru,q⟩
theorem aEY(ha:PE X o ta)(hv:PE X value tv)(hs:swapsWith value (some (.Attribute o f pos')) pos.line X.env=pure false):PS X (.Assign [.Attribute o f pos'] value pos) (aO2 X.K ta tv f):=by
 intro pins s σ H D I h
 refine plainObj_wpAny_Assign_Attribute (thn (hv pins s σ H _ I h) fun u s1 ⟨y,H1,I1,ry,q⟩=>thn (ha pins s1 σ H1 _ I1 q) fun ov s2 ⟨x,H2,I2,rx,a,C,dx,fs,ex,ea,c,n,l,q2⟩=>?_) hs
 subst ex
 obtain rfl:ov=Value.ref a:=rx
 exact auZ I2 ea c n l ry fun s3 I3=>⟨σ,_,I3,q2⟩
end
section
variable{X:Cx}{pins:List (Addr×Obj)}{σ:St}{H:Hp}{s:Shared}{A:Around}{E:Value->Shared->Prop}{Q:Value->Shared->Prop}{c:Value}{b:Bool}
inductive TyOf (K:FG) (H:Hp):V->Value->Prop where
 |non:TyOf K H .non (.type "NoneType")
 |bl (x:Bool):TyOf K H (.bl x) (.type "bool")
 |int (i:Int):TyOf K H (.int i) (.type "int")
 |str (x:Str):TyOf K H (.str x) (.type "str")
 |flt (x:UInt64):TyOf K H (.flt x) (.type "float")
 |lst {a:Addr} {xs:List V} (e:H a=some (.lst xs)):TyOf K H (.ref a) (.type "list")
 |frz {a:Addr} {o:Obj} {xs:List V} (e:H a=some (.frz o (.lst xs))):TyOf K H (.ref a) (.type "list")
 |tup {a:Addr} {xs:List V} (e:H a=some (.tup xs)):TyOf K H (.ref a) (.type "tuple")
 |dK {a:Addr} {kvs:List (Key×V)} (e:H a=some (.dK kvs)):TyOf K H (.ref a) (.type "dict")
 |dT {a:Addr} {kvs:List (List Key×V)} (e:H a=some (.dT kvs)):TyOf K H (.ref a) (.type "dict")
 |ins {a C dx:Addr} {fs:List (Str×V)} (e:H a=some (.ins C dx fs)) (cl:Cls K C) (ha:PySem.W.findIn K (.ref C) "__class__"=some (some (.builtin "object.__class__")))
   (hn:PySem.W.specialIn K (.builtin "object.__class__") "__get__"=some (some (.builtin "getset_descriptor.__get__"))) (htk:PySem.W.takesIn K (.builtin "object.__class__")=some true)
   (hm:PySem.W.mroIn K C (.type "object")=some true):TyOf K H (.ref a) (.ref C)
end
structure Room(k:Nat)(A:Around):Prop where
 hd:A.handled=none
 dp:A.depth+3*k+5<recursionLimit
 un:A.units+16*k+200<cLine
theorem Room.mono{j k:Nat}{A:Around}(r:Room k A)(h:j<=k):Room j A:=⟨r.hd,by have:=r.dp;omega,by have:=r.un;omega⟩
theorem Room.deeper{k:Nat}{A:Around}(r:Room (k+1) A)(env:Env):Room k (A.deeper env):=
 ⟨r.hd,by have:=r.dp;show A.depth+1+3*k+5<_;omega,by have:=r.un;show A.units+3+16*k+200<_;omega⟩
theorem at4{A:Around}{C:Addr}{us:List Value}{kw:List (Str×Value)}:(A.under (.builtin "type.__call__" ⟨.ref C::us,kw⟩)).depth=A.depth+1:=by
 first | rfl | simp[Around.under,Code.weight,Code.isCreation,Code.isGuard,Code.isCaller,Code.frames,Code.isFrame,guardIds]
theorem atY{A:Around}{C:Addr}{us:List Value}{kw:List (Str×Value)}:(A.under (.builtin "type.__call__" ⟨.ref C::us,kw⟩)).units=A.units+1:=by
 first | rfl | simp[Around.under,Code.cUnits,Code.frames,Code.isFrame]
theorem Room.make{k:Nat}{A:Around}(r:Room (k+1) A)(C:Addr)(us:List Value)(kw:List (Str×Value)):Room k (A.under (.builtin "type.__call__" ⟨.ref C::us,kw⟩)):=
 ⟨r.hd,by have:=r.dp;rw[at4];omega,by have:=r.un;rw[atY];omega⟩
theorem Room.depth{k:Nat}{A:Around}(r:Room k A):A.depth<recursionLimit:=by have:=r.dp;omega
theorem Room.units{k:Nat}{A:Around}(r:Room k A):A.units+64<cLine:=by have:=r.un;omega
noncomputable def aiE:TA:=fun _ H Q=>Q [] H
noncomputable def ajO(ta:TE)(tr:TA):TA:=fun σ H Q=>ta σ H fun x H1=>tr σ H1 fun xs H2=>Q (x::xs) H2
section
variable{X:Cx}{e:Expr}{es:List Expr}{te:TE}{t:TA}{pos:Pos}
theorem afF:PA X [] aiE:=fun _ _ _ _ H Q I h=>Calls.spliced_nil ⟨[],H,I,.nil,h⟩
theorem adC(ha:PE X e te)(hr:PA X es t)(hs:starEach (e::es) X.env=(false,eval e X.env)::starEach es X.env:=by rfl):PA X (e::es) (ajO te t):=by
 intro pos pins s σ H Q I h
 rw[hs]
 show wpAny _ _ (spliced ((false,eval e X.env)::backTo pos (starEach es X.env))) _ _ s
 refine Calls.spliced_cons (thn (ha pins s σ H _ I h) fun u s1 ⟨x,H1,I1,r1,q1⟩=>?_)
 exact thn (hr pos pins s1 σ H1 _ I1 q1) fun us s2 ⟨xs,H2,I2,r2,q2⟩=>⟨x::xs,H2,I2,.cons r1 r2,q2⟩
noncomputable def aK7(t:TA):TE:=fun σ H Q=>t σ H fun xs H1=>xs.length<=sizeLine/\∀p,H1 p=none->Q (.ref p) (upd H1 p (.tup xs))
noncomputable def aGH(t:TA):TE:=fun σ H Q=>t σ H fun xs H1=>xs.length<=sizeLine/\∀p,H1 p=none->Q (.ref p) (upd H1 p (.lst xs))
theorem aFK{x1}(h:PA X es t):PE X (.Tuple es x1 pos) (aK7 t):=by
 intro pins s σ H Q I hq
 refine wpAny_Tuple_spliced (thn (h pos pins s σ H _ I hq) fun us s1 ⟨xs,H1,I1,r,z,q⟩=>⟨by rw[←r.length];exact z,?_⟩)
 have hf:H1 s1.heap.objs.size=none:=I1.hok.fresh (aO _)
 refine⟨.ref s1.heap.objs.size,upd H1 s1.heap.objs.size (.tup xs),I1.laid (t':=s1.toks) (fun b u e=>aS _ e) (aO _) ?_,rfl,q _ hf⟩
 exact⟨z,us,r,⟨_,bC _ rfl,rfl,_,rfl⟩⟩
theorem aEF(h:PA X es t):PE X (.List es pos) (aGH t):=by
 intro pins s σ H Q I hq
 refine wpAny_List_spliced (thn (h pos pins s σ H _ I hq) fun us s1 ⟨xs,H1,I1,r,z,q⟩=>⟨by rw[←r.length];exact z,?_⟩)
 have hf:H1 s1.heap.objs.size=none:=I1.hok.fresh (aO _)
 refine⟨.ref s1.heap.objs.size,upd H1 s1.heap.objs.size (.lst xs),I1.laid (t':=s1.toks) (fun b u e=>aS _ e) (aO _) ?_,rfl,q _ hf⟩
 exact⟨z,us,0,r,bC _ rfl⟩
end
noncomputable abbrev Sp:=List V->Hp->VK->XK->Prop
noncomputable abbrev CXT:=List Env->Hp->Shared->XK->Value->Shared->Prop
structure Env0(P:Program)(w:World)(K:FG)(mg:Str->Option Value)(base:Heap)(A:Around)(outer:List Env)(s:Shared)(H:Hp):Prop where
 frames:A.frames=some outer
 mod:Mod K mg base
 bs:∀b o,base.get? b=some o->s.heap.get? b=some o/\H b=none
 bsz:base.objs.size<=s.heap.objs.size
 funs:s.heap.FunFrames base outer
 frf:∀b∈frs outer,H b=none
 hok:HOk P w H s.heap
 bare:AllBare s.gens
noncomputable def CE(outer:List Env)(P:Program)(w:World)(H:Hp)(s:Shared)(Q:VK)(u:Value)(s':Shared):Prop:=
 ∃v H',s'.os=s.os/\AllBare s'.gens/\Un (frs outer) [] H H' s.heap s'.heap/\HOk P w H' s'.heap/\RelV v u/\Q v H'
noncomputable def CR(CX:CXT)(outer:List Env)(P:Program)(w:World)(H:Hp)(s:Shared)(Q:VK)(E:XK)(r:Result)(s':Shared):Prop:=
 match r with
 |.ok (.ret u)=>CE outer P w H s Q u s'
 |.ok _=>False
 |.error e=>CX outer H s E e s'
structure FnOk(P:Program)(w:World)(K:FG)(mg:Str->Option Value)(base:Heap)(CX:CXT)(k:Nat)(f:Addr)(fd:FuncData)(ps:List Str)(sp:Sp):Prop where
 len:∀vs H Q E,sp vs H Q E->vs.length=ps.length
 run:∀(A:Around) (outer:List Env) (s:Shared) (H:Hp) (args:Args) (us:List Value) (vs:List V) (Q:VK) (E:XK),Room k A->Env0 P w K mg base A outer s H->BindsTo s fd args (ps.zip us)->Vals vs us->sp vs H Q E->
  codeAny (model P w) A (.call (.ref f) args) (CR CX outer P w H s Q E) s
theorem Env0.make{P:Program}{w:World}{K:FG}{mg:Str->Option Value}{base:Heap}{A:Around}{outer:List Env}{s:Shared}{H:Hp}(e:Env0 P w K mg base A outer s H)(C:Addr)(us:List Value)(kw:List (Str×Value)):
  Env0 P w K mg base (A.under (.builtin "type.__call__" ⟨.ref C::us,kw⟩)) outer s H:=⟨by first | exact e.frames | (simpa [Around.under,Code.envs,Code.isFrame,pushEnvs] using e.frames),e.mod,e.bs,e.bsz,e.funs,e.frf,e.hok,e.bare⟩
section
variable{X:Cx}{pins:List (Addr×Obj)}{σ:St}{H:Hp}{s s':Shared}
theorem Inv.env0(I:Inv X pins σ H s):Env0 X.prog X.w X.K X.mg X.base X.A X.stack s H:=
 ⟨I.ok.frames,I.ok.mod,I.bs,bJ I.ok.bsz I.sz,I.stack,I.stkFree,I.hok,I.bare⟩
theorem Inv.after{Q:VK}{u:Value}(I:Inv X pins σ H s)(h:CE X.stack X.prog X.w H s Q u s'):EP X pins σ Q u s':=by
 obtain⟨v,H',os,bare,un,hok,r,q⟩:=h
 obtain⟨hh,g,d,t,os'⟩:=s'
 obtain rfl:os'=s.os:=os
 exact⟨v,H',I.call (h':=hh) (g':=g) (d':=d) (t':=t) (ch:=[]) un hok bare (fun b z=>absurd z (by simp)),r,q⟩
end
noncomputable def awY(sp:Sp)(dvs:List V)(E:XK)(t:TA):TE:=fun σ H Q=>t σ H fun vs H1=>sp (vs++dvs) H1 Q E
noncomputable def aw7(C:Addr)(m:Str)(sp:Sp)(dvs:List V)(E:XK)(ta:TE)(t:TA):TE:=fun σ H Q=>ta σ H fun x H1=>∃a dx fs,x=.ref a/\H1 a=some (.ins C dx fs)/\fs.lookup m=none/\
 t σ H1 fun vs H2=>sp (x::(vs++dvs)) H2 Q E
noncomputable def awL(C:Addr)(sp:Sp)(dvs:List V)(E:XK)(t:TA):TE:=fun σ H Q=>t σ H fun vs H1=>∀x dx,H1 x=none->H1 dx=none->dx≠x->
 sp (.ref x::(vs++dvs)) (upd (upd H1 dx (.own x)) x (.ins C dx [])) (fun v H2=>v=.non/\Q (.ref x) H2) E
noncomputable def Binds(K:FG)(fd:FuncData)(ps:List Str)(ds:List Value):Prop:=
 ∀(s:Shared) (us:List Value),K.In s.heap->(us++ds).length=ps.length->BindsTo s fd ⟨us,[]⟩ (ps.zip (us++ds))
theorem Binds.all{K:FG}{fd:FuncData}{ps:List Str}(h:∀us:List Value,us.length=ps.length->bindArgs fd ⟨us,[]⟩=pure (ps.zip us)):Binds K fd ps []:=fun s us _ hl=>by
 rw[bS] at hl ⊢
 exact .of_eq (h us hl)
noncomputable def aeP(CX:CXT)(X:Cx)(E:XK):Prop:=∀(pins:List (Addr×Obj)) (σ:St) (H:Hp) (s:Shared) (e:Value) (s':Shared),Inv X pins σ H s->CX X.stack H s E e s'->X.xe e s'
section
variable{X:Cx}{CX:CXT}{k:Nat}{f C:Addr}{fd:FuncData}{ps:List Str}{sp:Sp}{dvs:List V}{ds:List Value}{E:XK}{x m:Str}{p pos apos:Pos}{e o:Expr}{es:List Expr}{ta:TE}{t:TA}
theorem arM{pins:List (Addr×Obj)}{σ:St}{H:Hp}{s:Shared}{Q:VK}{us:List Value}{vs:List V}(F:FnOk X.prog X.w X.K X.mg X.base CX k f fd ps sp)(hr:Room k X.A)(hb:Binds X.K fd ps ds)(hd:Vals dvs ds)(hx:aeP CX X E)
  (I:Inv X pins σ H s) (r:Vals vs us) (h:sp (vs++dvs) H Q E):wpAny (model X.prog X.w) X.A (call (.ref f) us) (EP X pins σ Q) X.xe s:=by
 have r2:Vals (vs++dvs) (us++ds):=r.append hd
 have hl:(us++ds).length=ps.length:=by rw[←r2.length];exact F.len _ _ _ _ h
 refine wpAny_call (codeAny_mono (F.run X.A X.stack s H ⟨us,[]⟩ (us++ds) (vs++dvs) Q E hr I.env0 (hb s us I.kIn hl) r2 h) fun r s' hq=>?_)
 cases r with
 |error e=>exact hx pins σ H s e s' I hq
 |ok fl=>
  cases fl with
  |ret u=>exact I.after hq
  |next=>exact False.elim hq
  |brk=>exact False.elim hq
  |cont=>exact False.elim hq
theorem aBD(F:FnOk X.prog X.w X.K X.mg X.base CX k f fd ps sp)(hr:Room k X.A)(hg:Gl X x)(hm:X.mg x=some (.ref f))(hk:PySem.W.keepIn X.K (.ref f)=true)(hb:Binds X.K fd ps ds)(hd:Vals dvs ds)(hx:aeP CX X E)
  (ha:PA X (e::es) t) (hdb:(x==("__debug__":Str))=false:=by decide) (he:starEach (e::es) X.env=(false,eval e X.env)::starEach es X.env:=by rfl) (hpl:(backTo pos (starEach es X.env)).any (·.1)=false:=by rfl):
  PE X (.Call (.Name x p) (e::es) [] pos) (awY sp dvs E t):=by
 intro pins s σ H Q I h
 refine dZ (ahV I hg hm ?_ hdb)
 refine PySem.W.callWith_K (h₀:=X.base) I.ok.mod.kin hk (thn (ha pos pins s σ H _ I h) fun us s1 ⟨vs,H1,I1,r,q⟩=>⟨I1.kIn,?_⟩) he hpl
 exact arM F hr hb hd hx I1 r q
theorem aB8{pl:Sem Bool}(he:PE X o ta)(c:Cls X.K C)(hm:Meth X.K C m f)(F:FnOk X.prog X.w X.K X.mg X.base CX k f fd ps sp)(hr:Room k X.A)(hb:Binds X.K fd ps ds)(hd:Vals dvs ds)(hx:aeP CX X E)(ha:PA X (e::es) t)
  (hst:starEach (e::es) X.env=(false,eval e X.env)::starEach es X.env:=by rfl) (hpl:(backTo pos (starEach es X.env)).any (·.1)=false:=by rfl)
  (ht:eval (.Call (.Attribute o m apos) (e::es) [] pos) X.env=(do
   let ov ←eval o X.env
   standAt apos.atName
   let (f,first) ←holding [ov] (getMethod ov m pl)
   callWith pos f first (backTo pos (starEach (e::es) X.env)) (backToKw pos (keywordEach [] X.env))):=by rfl):
  PE X (.Call (.Attribute o m apos) (e::es) [] pos) (aw7 C m sp dvs E ta t):=by
 intro pins s σ H Q I h
 refine PySem.W.methodCall_KW (pl:=pl) (thn (he pins s σ H _ I h) fun u s1 ⟨x,H1,I1,rx,a,dx,fs,ex,ea,l,q⟩=>?_) ht
 subst ex
 obtain rfl:u=Value.ref a:=rx
 refine amN I1 ea c hm l ?_
 refine PySem.W.callWith_K (first:=[.ref a]) (h₀:=X.base) I.ok.mod.kin hm.kp (thn (ha pos pins s1 σ H1 _ I1 q) fun us s2 ⟨vs,H2,I2,r,q2⟩=>⟨I2.kIn,?_⟩) hst hpl
 exact arM (us:=.ref a::us) (vs:=.ref a::vs) F hr hb hd hx I2 (.cons rfl r) q2
theorem ay1{pl:Sem Bool}(he:PE X o ta)(c:Cls X.K C)(hm:Meth X.K C m f)(F:FnOk X.prog X.w X.K X.mg X.base CX k f fd ps sp)(hr:Room k X.A)(hb:Binds X.K fd ps ds)(hd:Vals dvs ds)(hx:aeP CX X E)
  (ht:eval (.Call (.Attribute o m apos) [] [] pos) X.env=(do
   let ov ←eval o X.env
   standAt apos.atName
   let (f,first) ←holding [ov] (getMethod ov m pl)
   callWith pos f first (backTo pos (starEach [] X.env)) (backToKw pos (keywordEach [] X.env))):=by rfl):
  PE X (.Call (.Attribute o m apos) [] [] pos) (aw7 C m sp dvs E ta aiE):=by
 intro pins s σ H Q I h
 refine PySem.W.methodCall_KW (pl:=pl) (thn (he pins s σ H _ I h) fun u s1 ⟨x,H1,I1,rx,a,dx,fs,ex,ea,l,q⟩=>?_) ht
 subst ex
 obtain rfl:u=Value.ref a:=rx
 refine amN I1 ea c hm l ?_
 exact PySem.W.callWith_K0 (first:=[.ref a]) I1.kIn hm.kp (arM (us:=[.ref a]) (vs:=[.ref a]) F hr hb hd hx I1 (.cons rfl .nil) q)
structure Mk(K:FG)(C f:Addr):Prop where
 makes:PySem.W.makesIn K C=true
 init:PySem.W.findIn K (.ref C) "__init__"=some (some (.ref f))
 fn:PySem.W.isFn K (.ref f)=true
 kp:PySem.W.keepIn K (.ref C)=true
theorem atQ{pins:List (Addr×Obj)}{σ:St}{H:Hp}{s:Shared}{Q:VK}{us:List Value}{vs:List V}(M:Mk X.K C f)(F:FnOk X.prog X.w X.K X.mg X.base CX k f fd ps sp)(hr:Room (k+1) X.A)(hb:Binds X.K fd ps ds)(hd:Vals dvs ds)
  (hx:aeP CX X E) (I:Inv X pins σ H s) (r:Vals vs us)
  (h:∀x dx,H x=none->H dx=none->dx≠x->sp (.ref x::(vs++dvs)) (upd (upd H dx (.own x)) x (.ins C dx [])) (fun v H2=>v=.non/\Q (.ref x) H2) E):
  wpAny (model X.prog X.w) X.A (call (.ref C) us) (EP X pins σ Q) X.xe s:=by
 have hq:=h (s.heap.objs.size+1) s.heap.objs.size (I.hok.fresh (Nat.le_succ _)) (I.hok.fresh (aO _)) (aV (cR _))
 have I2:=Inv.made (C:=C) I
 have r2:Vals (V.ref (s.heap.objs.size+1)::(vs++dvs)) (Value.ref (s.heap.objs.size+1)::(us++ds)):=.cons rfl (r.append hd)
 have hl:(Value.ref (s.heap.objs.size+1)::us++ds).length=ps.length:=by
  have e:=r2.length
  rw[F.len _ _ _ _ hq] at e
  exact e.symm
 refine wpAny_call (azU (f:=f) I.kIn M.makes M.init (beq_iff_eq.mp M.fn) (codeAny_mono (F.run _ X.stack _ _ ⟨Value.ref (s.heap.objs.size+1)::us,[]⟩ (Value.ref (s.heap.objs.size+1)::(us++ds)) _ _ E (hr.make C us [])
  (I2.env0.make C us []) (hb _ (Value.ref (s.heap.objs.size+1)::us) I2.kIn hl) r2 hq) fun r s' hq'=>?_))
 cases r with
 |error e=>exact hx pins σ _ _ e s' I2 hq'
 |ok fl=>
  cases fl with
  |ret u=>
   obtain⟨v,H',I3,rv,ev,q3⟩:=I2.after hq'
   subst ev
   exact⟨rv,⟨V.ref (s.heap.objs.size+1),H',I3,rfl,q3⟩⟩
  |next=>exact False.elim hq'
  |brk=>exact False.elim hq'
  |cont=>exact False.elim hq'
theorem aCY(M:Mk X.K C f)(F:FnOk X.prog X.w X.K X.mg X.base CX k f fd ps sp)(hr:Room (k+1) X.A)(hg:Gl X x)(hm:X.mg x=some (.ref C))(hb:Binds X.K fd ps ds)(hd:Vals dvs ds)(hx:aeP CX X E)
  (ha:PA X (e::es) t) (hdb:(x==("__debug__":Str))=false:=by decide) (he:starEach (e::es) X.env=(false,eval e X.env)::starEach es X.env:=by rfl) (hpl:(backTo pos (starEach es X.env)).any (·.1)=false:=by rfl):
  PE X (.Call (.Name x p) (e::es) [] pos) (awL C sp dvs E t):=by
 intro pins s σ H Q I h
 refine dZ (ahV I hg hm ?_ hdb)
 refine PySem.W.callWith_K (h₀:=X.base) I.ok.mod.kin M.kp (thn (ha pos pins s σ H _ I h) fun us s1 ⟨vs,H1,I1,r,q⟩=>⟨I1.kIn,?_⟩) he hpl
 exact atQ M F hr hb hd hx I1 r q
theorem ay9(M:Mk X.K C f)(F:FnOk X.prog X.w X.K X.mg X.base CX k f fd ps sp)(hr:Room (k+1) X.A)(hg:Gl X x)(hm:X.mg x=some (.ref C))(hb:Binds X.K fd ps ds)(hd:Vals dvs ds)(hx:aeP CX X E)
  (hdb:(x==("__debug__":Str))=false:=by decide):PE X (.Call (.Name x p) [] [] pos) (awL C sp dvs E aiE):=by
 intro pins s σ H Q I h
 refine dZ (ahV I hg hm ?_ hdb)
 exact PySem.W.callWith_K0 I.kIn M.kp (atQ (us:=[]) M F hr hb hd hx I .nil h)
end
section
variable{X:Cx}{CX:CXT}{k:Nat}{f C:Addr}{fd:FuncData}{ps ks:List Str}{sp:Sp}{E:XK}{x m:Str}{p pos apos kpos:Pos}{e o:Expr}{es:List Expr}{kws:List Keyword}{te ta:TE}{t tk:TA}{nm:Option Str}
variable{g:List Value->List Value->List Value}{gV:List V->List V->List V}
end
structure FnScope(N P:List Str)(sc:Scope):Prop where
 kind:sc.kind=.function
 co:sc.isCoroutine=false
 gen:sc.isGenerator=false
 nd:N.Nodup
 pre:N.take P.length=P
 par:∀x∈P,sc.names.lookup x=some .local∨sc.names.lookup x=some .cell
 nofree:∀y∈sc.names,y.2≠ .free
theorem aoF{kindOf:Str->Option NameKind}{x:Str}:∀{binds:List (Str×Value)} {m:Str->Option Value},(∀v,(x,v)∉binds)->bindL kindOf binds m x=m x
 |[],_,_=>rfl
 |(n,v)::r,m,h=>by
  unfold bindL
  rw[aoF fun w hw=>h w (bD _ hw)]
  split
  ·have:x≠n:=by rintro rfl;exact h v bB
   simp[this]
  ·rfl
theorem aoB{kindOf:Str->Option NameKind}{x:Str}:∀{binds:List (Str×Value)} {m:Str->Option Value},(∀v,(x,v)∉binds)->bindC kindOf binds m x=m x
 |[],_,_=>rfl
 |(n,v)::r,m,h=>by
  unfold bindC
  rw[aoB fun w hw=>h w (bD _ hw)]
  split
  ·rfl
  ·have:x≠n:=by rintro rfl;exact h v bB
   simp[this]
theorem an7{kindOf:Str->Option NameKind}{x:Str}{v:Value}:∀{P:List Str} {vs:List Value} {i:Nat} {m:Str->Option Value},P.Nodup->P[i]? =some x->vs[i]? =some v->kindOf x=some .local->
  bindL kindOf (P.zip vs) m x=some v
 |[],_,_,_,_,h,_,_=>by simp at h
 |_::_,[],_,_,_,_,h,_=>by simp at h
 |p::P,w::vs,0,m,nd,h1,h2,hk=>by
  simp at h1 h2;subst h1;subst h2
  show bindL kindOf ((p,w)::P.zip vs) m p=_
  unfold bindL
  rw[aoF fun v hv=>(List.nodup_cons.mp nd).1 (List.of_mem_zip hv).1,if_pos hk]
  simp
 |p::P,w::vs,i+1,m,nd,h1,h2,hk=>by
  show bindL kindOf ((p,w)::P.zip vs) m x=_
  unfold bindL
  exact an7 (i:=i) (List.nodup_cons.mp nd).2 (by simpa using h1) (by simpa using h2) hk
theorem aoW{kindOf:Str->Option NameKind}{x:Str}{v:Value}:∀{P:List Str} {vs:List Value} {i:Nat} {m:Str->Option Value},P.Nodup->P[i]? =some x->vs[i]? =some v->kindOf x≠some .local->
  bindC kindOf (P.zip vs) m x=some v
 |[],_,_,_,_,h,_,_=>by simp at h
 |_::_,[],_,_,_,_,h,_=>by simp at h
 |p::P,w::vs,0,m,nd,h1,h2,hk=>by
  simp at h1 h2;subst h1;subst h2
  show bindC kindOf ((p,w)::P.zip vs) m p=_
  unfold bindC
  rw[aoB fun v hv=>(List.nodup_cons.mp nd).1 (List.of_mem_zip hv).1,if_neg hk]
  simp
 |p::P,w::vs,i+1,m,nd,h1,h2,hk=>by
  show bindC kindOf ((p,w)::P.zip vs) m x=_
  unfold bindC
  exact aoW (i:=i) (List.nodup_cons.mp nd).2 (by simpa using h1) (by simpa using h2) hk
noncomputable def start(N:List Str)(vs:List V):St:=vs.map some++List.replicate (N.length-vs.length) none
noncomputable def alI(CX:CXT)(P:Program)(w:World)(K:FG)(mg:Str->Option Value)(base:Heap)(N:List Str)(qual:Str)(scope:Scope)(f:Addr)(cd:Value)(A:Around)(outer:List Env)(s:Shared)(H:Hp)(E:XK):Cx where
 prog:=P
 w:=w
 K:=K
 mg:=mg
 base:=base
 A:=A.deeper (envOfC qual scope s.heap.objs.size f cd)
 N:=N
 s₀:=s
 H₀:=H
 env:=envOfC qual scope s.heap.objs.size f cd
 outer:=outer
 stack:=envOfC qual scope s.heap.objs.size f cd::outer
 ex:=[]
 calm:=true
 fn:=fun _=>true
 pn:=[]
 xe:=fun e s'=>wpAny (model P w) (A.deeper (envOfC qual scope s.heap.objs.size f cd)) (leaving (envOfC qual scope s.heap.objs.size f cd) e) (fun _ s''=>CX outer H s E e s'') (fun e' s''=>CX outer H s E e' s'') s'
theorem atV{sc:Scope}{n:Nat}{x:Str}(h:sc.names.lookup x=some .cell):∃c,(cellsFrom n sc.names []).lookup x=some c:=by
 have q:=PySem.W.cellsFrom_some sc.names n [] (.inl h)
 exact c6.mp q
theorem ayI{CX:CXT}{P:Program}{w:World}{K:FG}{mg:Str->Option Value}{base:Heap}{N ps:List Str}{qual:Str}{scope:Scope}{f:Addr}{cd:Value}{A:Around}{outer:List Env}{s s1:Shared}{H:Hp}{E:XK}{us:List Value}{vs:List V}
  (S:FnScope N ps scope) (hd:A.handled=none) (e0:Env0 P w K mg base A outer s H) (hl:vs.length=ps.length) (r:Vals vs us)
  (x:InCallC s s.heap.objs.size (bindL (envOfC qual scope s.heap.objs.size f cd).kindOf (ps.zip us) fun _=>none) (cellsFrom (s.heap.objs.size+1) scope.names []) (bindC (envOfC qual scope s.heap.objs.size f cd).kindOf (ps.zip us) fun _=>none) s1):
  Inv (alI CX P w K mg base N qual scope f cd A outer s H E) [] (start N vs) H s1:=by
 have hpl:ps.length<=N.length:=by have:=congrArg List.length S.pre;rw[cS] at this;omega
 obtain⟨h1,tk,rfl,hk⟩:=x.done
 have noA:∀b:Addr,b∉(alI CX P w K mg base N qual scope f cd A outer s H E).ex:=fun b z=>absurd (show b∈([]:List Addr) from z) (by simp)
 refine⟨⟨e0.mod,S.kind,rfl,rfl,aO _,fun y z c h1 h2=>?_,fun y hy=>?_,fun y c _ h=>?_,fun _=>hd,Around.frames_deeper e0.frames,.inr ⟨rfl,rfl⟩,fun b z=>absurd z (noA b),e0.bs,e0.bsz,fun b _ _=>noA b,fun b z=>absurd z (noA b),e0.funs,e0.frf⟩,
  rfl,e0.bare,Un.kept hk,⟨_,x.toInCall.ns,fun i y v h1 h2 h3=>?_⟩,fun y c h=>⟨_,x.cell y c h⟩,e0.hok.fresh (aO _),fun y c h=>?_,fun p hp=>absurd (show p∈([]:List (Addr×Obj)) from hp) (by simp),e0.hok.kept hk,?_⟩
 ·exact name_of_addr x.apart (PySem.mem_of_lookup h1) (PySem.mem_of_lookup h2)
 ·have hy:scope.names.lookup y=some .cell∨scope.names.lookup y=some .free:=hy
  rcases hy with hy | hy
  ·exact atV hy
  ·exact absurd rfl (S.nofree _ (PySem.mem_of_lookup hy))
 ·exact Nat.le_of_lt (x.above y c (PySem.mem_of_lookup h))
 ·have hi:i<vs.length:=by
   unfold start at h2
   by_cases hi:i<vs.length
   ·exact hi
   ·rw[List.getElem?_append_right (by simpa using hi)] at h2
    rw[List.getElem?_replicate] at h2
    split at h2<;>cases h2
  have ha:vs[i]? =some v:=by
   unfold start at h2
   rw[List.getElem?_append_left (by simpa using hi),aY] at h2
   cases e:vs[i]? with
   |none=>rw[e] at h2;cases h2
   |some a=>rw[e] at h2;cases h2;rfl
  obtain⟨u,hu,rv⟩:=r.get ha
  have hp:ps[i]? =some y:=by
   rw[←S.pre,List.getElem?_take_of_lt (by omega)];exact h1
  have ndP:ps.Nodup:=by rw[←S.pre];exact S.nd.sublist (List.take_sublist _ _)
  refine⟨u,rv,?_⟩
  rcases S.par y (bH hp) with k | k
  ·exact .inl ⟨k,an7 ndP hp hu k⟩
  ·obtain⟨c,e⟩:=atV (n:=s.heap.objs.size+1) k
   refine .inr ⟨.inl k,c,e,?_⟩
   have q:=x.cell y c e
   rw[aoW ndP hp hu (by show scope.names.lookup y≠_;rw[k];decide)] at q
   exact q
 ·exact e0.hok.fresh (Nat.le_of_lt (x.above y c (PySem.mem_of_lookup h)))
 ·unfold start
  show _=N.length
  rw[aP,aM,c7]
  omega
theorem aC5{CX:CXT}{P:Program}{w:World}{K:FG}{mg:Str->Option Value}{base:Heap}{k:Nat}{f:Addr}{name qual:Str}{params:Arguments}{body:List Stmt}{scope:Scope}{dV kV doc pm cdv ct oc:Value}{an od:Option Addr}
  {osl:Array (Option Value)} {N ps:List Str} {sp:Sp} (lk:K.lookup f=some ⟨oc,od,.func (PySem.W.fnOf name qual params body scope dV kV doc pm an cdv ct),osl⟩) (hcd:PySem.W.codeIn K cdv qual=true) (S:FnScope N ps scope)
  (len:∀vs H Q E,sp vs H Q E->vs.length=ps.length)
  (hbody:∀(A:Around) (outer:List Env) (s:Shared) (H:Hp) (vs:List V) (Q:VK) (E:XK),Room k (A.deeper (envOfC qual scope s.heap.objs.size f cdv))->sp vs H Q E->
   ∃t,PSs (alI CX P w K mg base N qual scope f cdv A outer s H E) body t/\t {nx:=fun _ H'=>Q .non H',rt:=Q} (start N vs) H):
  FnOk P w K mg base CX (k+1) f (PySem.W.fnOf name qual params body scope dV kV doc pm an cdv ct) ps sp:=by
 refine⟨len,fun A outer s H args us vs Q E hr e0 hb r hsp=>?_⟩
 have hl:=len _ _ _ _ hsp
 have KX:K.In s.heap:=e0.mod.kin.keeps fun b o e=>(e0.bs b o e).1
 have lim:s.heap.NoLimit:=e0.mod.nolimit.keeps fun b o e=>(e0.bs b o e).1
 have hkind:∀y∈ps.zip us,scope.names.lookup y.1=some .local∨(scope.names.lookup y.1=some .cell/\((cellsFrom (s.heap.objs.size+1) scope.names []).lookup y.1).isSome=true):=fun ⟨n,v⟩ hy=>by
  rcases S.par n (List.of_mem_zip hy).1 with q | q
  ·exact .inl q
  ·exact .inr ⟨q,PySem.W.cellsFrom_some _ _ _ (.inl q)⟩
 refine codeAny_call_function hr.depth (KX _ _ lk) rfl S.co S.gen rfl (PySem.W.codeRec_of KX hcd) (hb _ _ _ _ ?_)
 refine wpAny_newFunctionEnv_cells S.kind hkind fun env he s1 x=>?_
 subst he
 refine⟨lim.keeps x.toInCall.keep,codeAny_func ?_⟩
 obtain⟨t,ht,hq⟩:=hbody A outer s H vs Q E (hr.deeper _) hsp
 have I:Inv (alI CX P w K mg base N qual scope f cdv A outer s H E) [] (start N vs) H s1:=ayI S hr.hd e0 hl r x
 refine dO (ht [] s1 (start N vs) H _ I hq) (fun fl s' hs=>?_) fun e s' hs=>hs
 have fin:∀{σ':St} {H':Hp} {v:V} {u:Value},Inv (alI CX P w K mg base N qual scope f cdv A outer s H E) [] σ' H' s'->RelV v u->Q v H'->CE outer P w H s Q u s':=
  fun {σ' H' v u} J rv q=>⟨v,H',J.os,J.bare,J.base,J.hok,rv,q⟩
 cases fl with
 |ret u=>
  obtain⟨v,σ',H',J,rv,q⟩:=hs
  exact fin J rv q
 |next=>
  obtain⟨σ',H',J,q⟩:=hs
  exact fin (v:=V.non) (u:=Value.none) J rfl q
 |brk=>
  obtain⟨_,_,_,q⟩:=hs
  exact False.elim q
 |cont=>
  obtain⟨_,_,_,q⟩:=hs
  exact False.elim q
section
variable{X:Cx}{x:Str}{p pos:Pos}{e:Expr}{es:List Expr}{t:TA}{id T:String}{r:List V->Hp->VK->Prop}
noncomputable def tCB(r:List V->Hp->VK->Prop)(t:TA):TE:=fun σ H Q=>t σ H fun vs H1=>r vs H1 Q
theorem ay5(hc:ad6 X (.builtin id) r)(hg:Gl X x)(hm:X.mg x=none)(hv:bootBuiltins x=some (.builtin id))(ha:PA X (e::es) t)(hn:x≠"__name__":=by decide)(hdb:(x==("__debug__":Str))=false:=by decide)
  (he:starEach (e::es) X.env=(false,eval e X.env)::starEach es X.env:=by rfl) (hpl:(backTo pos (starEach es X.env)).any (·.1)=false:=by rfl):PE X (.Call (.Name x p) (e::es) [] pos) (tCB r t):=by
 intro pins s σ H Q I h
 refine dZ (aiB I hg hm hv ?_ hn hdb)
 exact PyProof.Rows.callWith_builtin1 (thn (ha pos pins s σ H _ I h) fun us s1 ⟨vs,H1,I1,r1,q1⟩=>hc pins s1 σ H1 vs us Q I1 r1 q1) he hpl
theorem ax6(hc:ad6 X (.type T) r)(hg:Gl X x)(hm:X.mg x=none)(hv:bootBuiltins x=some (.type T))(ha:PA X (e::es) t)(hn:x≠"__name__":=by decide)(hdb:(x==("__debug__":Str))=false:=by decide)
  (he:starEach (e::es) X.env=(false,eval e X.env)::starEach es X.env:=by rfl) (hpl:(backTo pos (starEach es X.env)).any (·.1)=false:=by rfl):PE X (.Call (.Name x p) (e::es) [] pos) (tCB r t):=by
 intro pins s σ H Q I h
 refine dZ (aiB I hg hm hv ?_ hn hdb)
 exact PyProof.Rows.callWith_type1 (thn (ha pos pins s σ H _ I h) fun us s1 ⟨vs,H1,I1,r1,q1⟩=>hc pins s1 σ H1 vs us Q I1 r1 q1) he hpl
end
end L2
namespace HT
open PySem PyProof.Rows
section
open PySem.SeqAt
open PySem.AutoSeq1 (wpAny_loadPart')
open PySem.MeetsSeq PySem.MeetsSeq2 PySem.MeetsSeq3
end
section
variable{prog:Program}{w:World}{A:Around}{E:Value->Shared->Prop}{s:Shared}
noncomputable def sIx(n d:Nat):Option Int->Nat
 |none=>d
 |some v=>if v<0 then (v+(n:Int)).toNat else min v.toNat n
theorem sIx_le(n d:Nat)(hd:d<=n)(o:Option Int):sIx n d o<=n:=by
 cases o with
 |none=>exact hd
 |some v=>
  show (if v<0 then (v+(n:Int)).toNat else min v.toNat n)<=n
  by_cases hv:v<0
  ·rw[if_pos hv];omega
  ·rw[if_neg hv];exact Nat.min_le_right _ _
end
end HT
namespace L2
open PySem PySem.Spec PyProof.Rows
noncomputable abbrev TO:=St->Hp->(Option Int->Hp->Prop)->Prop
noncomputable def PO(X:Cx)(e:Option Expr)(t:TO):Prop:=
 ∀(pins:List (Addr×Obj)) (s:Shared) (σ:St) (H:Hp) (Q:Option Int->Hp->Prop),Inv X pins σ H s->t σ H Q->
  wpAny (model X.prog X.w) X.A (evalPart e X.env) (fun u s'=>∃o H',Inv X pins σ H' s'/\IsPart u o/\Q o H') X.xe s
noncomputable def awD:TO:=fun _ H Q=>Q none H
noncomputable def aDI(t:TE):TO:=fun σ H Q=>t σ H fun x H1=>∃i,x=.int i/\Q (some i) H1
section
variable{X:Cx}{e:Expr}{te:TE}{lo hi:Option Expr}{tl th:TO}{pos p2:Pos}
theorem aBT:PO X none awD:=by
 intro pins s σ H Q I h
 rw[evalPart_none]
 exact eC ⟨none,H,I,.none,h⟩
theorem aB4(h:PE X e te):PO X (some e) (aDI te):=by
 intro pins s σ H Q I hw
 rw[evalPart_some]
 refine thn (h pins s σ H _ I hw) fun u s1 ⟨x,H1,I1,r1,q1⟩=>?_
 obtain⟨i,rfl,q⟩:=q1
 obtain⟨t,rfl⟩:=r1
 exact⟨some i,H1,I1,.int i t,q⟩
noncomputable def SlR(X:Cx)(r:V->Option Int->Option Int->Hp->VK->Prop):Prop:=
 ∀(pins:List (Addr×Obj)) (s:Shared) (σ:St) (H:Hp) (x:V) (v vl vu:Value) (lo hi:Option Int) (sl:Addr) (Q:VK),Inv X pins σ H s->RelV x v->s.heap.IsSliceOf sl vl vu .none->IsPart vl lo->IsPart vu hi->r x lo hi H Q->
  ∃T id,typeLookup (.type T) "__getitem__"=pure (some (.builtin id))/\s.TypeIs v T/\wpAny (model X.prog X.w) X.A (getItem v (.ref sl)) (EP X pins σ Q) X.xe s
noncomputable def tSl(r:V->Option Int->Option Int->Hp->VK->Prop)(te:TE)(tl th:TO):TE:=fun σ H Q=>te σ H fun x H1=>tl σ H1 fun l H2=>th σ H2 fun u H3=>r x l u H3 Q
theorem aAL{r:V->Option Int->Option Int->Hp->VK->Prop}(hr:SlR X r)(he:PE X e te)(hl:PO X lo tl)(hu:PO X hi th):PE X (.Subscript e (.Slice lo hi none p2) pos) (tSl r te tl th):=by
 intro pins s σ H Q I h
 refine Subscript_ (thn (he pins s σ H _ I h) fun v s1 ⟨x,H1,I1,r1,q1⟩=>?_)
 refine wpAny_Slice (thn (hl pins s1 σ H1 _ I1 q1) fun vl s2 ⟨l,H2,I2,pl,q2⟩=>thn (hu pins s2 σ H2 _ I2 q2) fun vu s3 ⟨u,H3,I3,pu,q3⟩=>?_)
 rw[evalPart_none]
 refine eC ?_
 have I4:Inv X pins σ H3 {s3 with heap:=s3.heap.push {cls:=.type "slice",data:=.fields #[vl,vu,.none]} }:=I3.kept (t':=s3.toks) fun b ob q=>aS _ q
 obtain⟨T,id,hT,ht,hg⟩:=hr pins {s3 with heap:=s3.heap.push {cls:=.type "slice",data:=.fields #[vl,vu,.none]} } σ H3 x v vl vu l u s3.heap.objs.size Q I4 r1 (Heap.IsSliceOf.new ..) pl pu q3
 show wpAny (model X.prog X.w) X.A (subscriptTail e (.Slice lo hi none p2) v (.ref s3.heap.objs.size)) (EP X pins σ Q) X.xe {s3 with heap:=s3.heap.push {cls:=.type "slice",data:=.fields #[vl,vu,.none]} }
 exact tail_any (ops:=[.ref s3.heap.objs.size,v]) ht hT hg (by with_unfolding_all rfl)
noncomputable def ae8(xs:List V)(lo hi:Option Int):List V:=(xs.drop (HT.sIx xs.length 0 lo)).take (HT.sIx xs.length xs.length hi-HT.sIx xs.length 0 lo)
theorem ar6(xs:List V)(lo hi:Option Int):(ae8 xs lo hi).length<=xs.length:=by
 unfold ae8
 rw[cS,List.length_drop]
 omega
end
noncomputable def ixN(n:Nat)(i:Int):Option Nat:=if 0<=i then (if i<n then some i.toNat else none) else if -(n:Int)<=i then some (i+n).toNat else none
noncomputable def atI{α:Type}(xs:List α)(i:Int):Option α:=(ixN xs.length i).bind fun j=>xs[j]?
theorem aB0{n:Nat}{i:Int}{j:Nat}(h:ixN n i=some j):seqIndex? i n=some j/\j<n/\ -(n:Int)<=i/\i<n:=by
 unfold ixN at h
 by_cases h0:0<=i
 ·rw[if_pos h0] at h
  by_cases h1:i<n
  ·rw[if_pos h1] at h
   have e:i.toNat=j:=a8 h
   exact⟨by rw[seqIndex_of h0 h1,e],by omega,by omega,h1⟩
  ·rw[if_neg h1] at h;cases h
 ·rw[if_neg h0] at h
  by_cases h1: -(n:Int)<=i
  ·rw[if_pos h1] at h
   have e:(i+n).toNat=j:=a8 h
   exact⟨by rw[seqIndex_neg (by omega) h1,e],by omega,h1,by omega⟩
  ·rw[if_neg h1] at h;cases h
theorem ap0{α:Type}{xs:List α}{i:Int}{v:α}(h:atI xs i=some v):∃j,seqIndex? i xs.length=some j/\xs[j]? =some v/\j<xs.length/\ -(xs.length:Int)<=i/\i<xs.length:=by
 unfold atI at h
 cases e:ixN xs.length i with
 |none=>rw[e] at h;cases h
 |some j=>
  rw[e] at h
  obtain⟨h1,h2,h3,h4⟩:=aB0 e
  exact⟨j,h1,h,h2,h3,h4⟩
theorem afR{α:Type}{xs:List α}{j:Nat}{v:α}(h:xs[j]? =some v):atI xs (j:Int)=some v:=by
 have hj:j<xs.length:=(cF.mp h).1
 have e:ixN xs.length (j:Int)=some j:=by
  unfold ixN
  rw[if_pos (by omega),if_pos (by omega)];simp
 unfold atI;rw[e];exact h
noncomputable def av5(b:Expr):Prop:=∀o i,subscripted b false o i=operate [o,i] (getItem o i)
noncomputable def IxR(X:Cx)(r:R2):Prop:=
 ∀(value slice:Expr) (pins:List (Addr×Obj)) (s:Shared) (σ:St) (H:Hp) (x y:V) (v u:Value) (Q:VK),Inv X pins σ H s->RelV x v->RelV y u->r x y H Q->
  subscripted slice false v u=operate [v,u] (getItem v u)->wpAny (model X.prog X.w) X.A (subscriptTail value slice v u) (EP X pins σ Q) X.xe s
noncomputable def MtR(X:Cx)(id:String)(r:V->List V->Hp->VK->Prop):Prop:=
 ∀(pins:List (Addr×Obj)) (s:Shared) (σ:St) (H:Hp) (x:V) (xs:List V) (v:Value) (us:List Value) (Q:VK),Inv X pins σ H s->RelV x v->Vals xs us->r x xs H Q->
  wpAny (model X.prog X.w) X.A (call (.builtin id) (v::us)) (EP X pins σ Q) X.xe s
section
variable{X:Cx}{a b:Expr}{ta tb:TE}{pos:Pos}
theorem aOQ{r:R2}(hr:IxR X r)(ha:PE X a ta)(hb:PE X b tb)(hs:av5 b):PE X (.Subscript a b pos) (tOp r ta tb):=by
 intro pins s σ H Q I h
 exact Subscript_ (aF2 ha hb I h fun v u s2 x y H2 I2 rx ry q=>hr a b pins s2 σ H2 x y v u Q I2 rx ry q (hs _ _))
noncomputable def aIP(K:FG):R2:=fun x y H Q=>∃p xs i v,x=.ref p/\y=.int i/\SqL K H p xs/\atI xs i=some v/\Q v H
noncomputable def aFT(K:FG):R2:=fun x y H Q=>∃p xs i v,x=.ref p/\y=.int i/\SqT K H p xs/\atI xs i=some v/\Q v H
noncomputable def rIxS:R2:=fun x y H Q=>∃z i c,x=.str z/\y=.int i/\z.length<=sizeLine/\atI z.cps.toList i=some c/\Q (.str ⟨#[c]⟩) H
theorem aCS:IxR X (aIP X.K):=by
 intro value slice pins s σ H x y v u Q I rx ry h hs
 obtain⟨p,xs,i,z,rfl,rfl,hq,he,q⟩:=h
 cases rx
 obtain⟨t,rfl⟩:=ry
 obtain⟨its,r,pl,hz⟩:=I.list hq
 obtain⟨j,h1,h2,h3,h4,h5⟩:=ap0 he
 obtain⟨w,ew,rw'⟩:=r.get h2
 have hl:=r.length
 have hn:=alT
 have fin:EP X pins σ Q w s:=⟨z,H,I,rw',q⟩
 by_cases h0:0<=i
 ·have hj:i.toNat=j:=by
   rw[seqIndex_of h0 h5] at h1
   exact a8 h1
  exact item_listR pl.isList h0 (by omega) (by rw[hj];simpa using ew) fin hs
 ·have hj:(i+(its.toArray.size:Int)).toNat=j:=by
   rw[seqIndex_neg (by omega) h4] at h1
   rw[bN,←hl]
   exact a8 h1
  exact subscriptTail_builtinR (x:=w) pl.isList.typeIs slot_list_getitem.lookup
   (wpAny_getItem_list_neg (Q:=fun r s'=>r=w/\EP X pins σ Q r s') pl.isList (by omega) (by rw[bN]<;>omega) (by omega) (by rw[hj];simpa using ew) ⟨rfl,fin⟩) hs
theorem aDY:IxR X (aFT X.K):=by
 intro value slice pins s σ H x y v u Q I rx ry h hs
 obtain⟨p,xs,i,z,rfl,rfl,hq,he,q⟩:=h
 cases rx
 obtain⟨t,rfl⟩:=ry
 obtain⟨its,r,pl,hz⟩:=I.tuple hq
 obtain⟨j,h1,h2,h3,h4,h5⟩:=ap0 he
 obtain⟨w,ew,rw'⟩:=r.get h2
 have hl:=r.length
 have hn:=alT
 have fin:EP X pins σ Q w s:=⟨z,H,I,rw',q⟩
 exact subscriptTail_builtinR (x:=w) pl.typeIs slot_tuple_getitem.lookup
  (getItem_tuple (j:=j) (Q:=fun r s'=>r=w/\EP X pins σ Q r s') pl (by omega) (by omega) (by rw[bN,←hl];exact h1) (by simpa using ew) ⟨rfl,fin⟩) hs
theorem aE5:IxR X rIxS:=by
 intro value slice pins s σ H x y v u Q I rx ry h hs
 obtain⟨z,i,c,rfl,rfl,hz,he,q⟩:=h
 obtain⟨t,rfl⟩:=rx
 obtain⟨t',rfl⟩:=ry
 obtain⟨j,h1,h2,h3,h4,h5⟩:=ap0 he
 have hl:z.cps.toList.length=z.length:=by simp[Str.length]
 rw[hl] at h1 h4 h5
 have hn:=alT
 exact tail_any (typeIs_str s z t) slot_str_getitem.lookup (getItem_str (c:=c) (by
  have e1:decide (i< -(2^63:Int))=false:=dY (by omega)
  have e2:decide (i ≥ 2^63)=false:=dY (by omega)
  rw[e1,e2,Bool.or_false]) (by rw[h1];simpa using h2) ⟨.str ⟨#[c]⟩,H,I.tok _,⟨_,rfl⟩,q⟩) hs
theorem Inv.lst{pins:List (Addr×Obj)}{σ:St}{H:Hp}{s:Shared}{p:Addr}{xs:List V}(I:Inv X pins σ H s)(h:H p=some (.lst xs)):
  ∃(its:List Value) (n:Nat),Vals xs its/\s.heap.get? p=some {cls:=.type "list",data:=.seq its.toArray n}/\xs.length<=sizeLine:=by
 obtain⟨z,its,n,r,e⟩:=I.hok p _ h
 exact⟨its,n,r,e,z⟩
theorem aq5(lo hi:Option Int)(n:Nat):(sliceBounds lo hi none n).1=((HT.sIx n 0 lo:Nat):Int)/\(sliceBounds lo hi none n).2.1=((HT.sIx n n hi:Nat):Int)/\(sliceBounds lo hi none n).2.2=1:=by
 refine⟨?_,?_,rfl⟩
 ·cases lo with
  |none=>simp[sliceBounds,HT.sIx]
  |some i=>
   simp only[sliceBounds,HT.sIx,Option.getD_none,show (1:Int)>0 by decide,if_true]
   by_cases h:i<0
   ·simp only[h,if_true]<;>omega
   ·simp only[h,if_false]<;>omega
 ·cases hi with
  |none=>simp[sliceBounds,HT.sIx]
  |some i=>
   simp only[sliceBounds,HT.sIx,Option.getD_none,show (1:Int)>0 by decide,if_true]
   by_cases h:i<0
   ·simp only[h,if_true]<;>omega
   ·simp only[h,if_false]<;>omega
theorem anH(its:List Value)(lo hi:Option Int):slicePick its.toArray lo hi none=((its.drop (HT.sIx its.length 0 lo)).take (HT.sIx its.length its.length hi-HT.sIx its.length 0 lo)).toArray:=by
 obtain⟨h1,h2,h3⟩:=aq5 lo hi its.toArray.size
 unfold slicePick
 rw[h1,h2,h3]
 simp only[sliceRange_one,pick_run,bN]<;>rfl
noncomputable def aPQ(K:FG):V->Option Int->Option Int->Hp->VK->Prop:=fun x lo hi H Q=>∃a xs,x=.ref a/\SqL K H a xs/\∀p,H p=none->Q (.ref p) (upd H p (.lst (ae8 xs lo hi)))
theorem aB7:SlR X (aPQ X.K):=by
 intro pins s σ H x v vl vu lo hi sl Q I rx hs pl pu h
 obtain⟨a,xs,rfl,hx,q⟩:=h
 cases rx
 obtain⟨its,r,ht,hz⟩:=I.list hx
 have hlen:=r.length
 refine⟨"list",_,slot_list_getitem.lookup,ht.isList.typeIs,?_⟩
 refine wpAny_getItem_list_slice ht.isList hs pl pu .none (by simp) ?_ (by rw[bN]<;>omega)
 rw[anH,←hlen]
 refine⟨.ref s.heap.objs.size,_,I.laid (t':=s.toks) (o:=.lst (ae8 xs lo hi)) (fun b ob q=>aS _ q) (aO _) ?_,rfl,q _ (I.hok.fresh (aO _))⟩
 exact⟨bJ (ar6 xs lo hi) hz,_,0,(r.drop (HT.sIx xs.length 0 lo)).take (HT.sIx xs.length xs.length hi-HT.sIx xs.length 0 lo),bC _ rfl⟩
noncomputable def aeR:V->Bool
 |.non=>true
 |.bl _=>true
 |.int _=>true
 |.str _=>true
 |_=>false
noncomputable def eqV:V->V->Bool
 |.non,.non=>true
 |.bl a,.bl b=>a==b
 |.bl a,.int b=>(if a then 1 else 0)==b
 |.int a,.bl b=>a==(if b then 1 else 0)
 |.int a,.int b=>a==b
 |.str a,.str b=>a==b
 |_,_=>false
theorem aFQ{A:Around}{s:Shared}{y x:V}{u v:Value}(ry:RelV y u)(rx:RelV x v)(fy:aeR y=true)(fx:aeR x=true):SeqAt.EqAt A s u v (eqV y x):=by
 cases y with
 |non=>
  cases ry
  cases x with
  |non=>cases rx;exact SeqAt.EqAt.same _
  |bl b=>cases rx;exact SeqAt.EqAt.none_bool b
  |int b=>obtain⟨t,rfl⟩:=rx;exact SeqAt.EqAt.none_int b t
  |str b=>obtain⟨t,rfl⟩:=rx;exact SeqAt.EqAt.none_str b t
  |_=>exact absurd (show false=true from fx) aW
 |bl a=>
  cases ry
  cases x with
  |non=>cases rx;exact SeqAt.EqAt.bool_none a
  |bl b=>cases rx;exact SeqAt.EqAt.bool_bool a b
  |int b=>obtain⟨t,rfl⟩:=rx;exact SeqAt.EqAt.bool_int a b t
  |str b=>obtain⟨t,rfl⟩:=rx;exact SeqAt.EqAt.bool_str a b t
  |_=>exact absurd (show false=true from fx) aW
 |int a=>
  obtain⟨t',rfl⟩:=ry
  cases x with
  |non=>cases rx;exact SeqAt.EqAt.int_none a t'
  |bl b=>cases rx;exact SeqAt.EqAt.int_bool a t' b
  |int b=>obtain⟨t,rfl⟩:=rx;exact SeqAt.EqAt.int_int a t' b t
  |str b=>obtain⟨t,rfl⟩:=rx;exact SeqAt.EqAt.int_str a t' b t
  |_=>exact absurd (show false=true from fx) aW
 |str a=>
  obtain⟨t',rfl⟩:=ry
  cases x with
  |non=>cases rx;exact SeqAt.EqAt.str_none a t'
  |bl b=>cases rx;exact SeqAt.EqAt.str_bool a t' b
  |int b=>obtain⟨t,rfl⟩:=rx;exact SeqAt.EqAt.str_int a t' b t
  |str b=>obtain⟨t,rfl⟩:=rx;exact SeqAt.EqAt.str_str a t' b t
  |_=>exact absurd (show false=true from fx) aW
 |_=>exact absurd (show false=true from fy) aW
noncomputable def eqU(x:V)(u:Value):Bool:=match u with
 |.none=>eqV .non x
 |.bool b=>eqV (.bl b) x
 |.int i _=>eqV (.int i) x
 |.str z _=>eqV (.str z) x
 |_=>false
theorem aAD{x y:V}{u:Value}(r:RelV y u)(f:aeR y=true):eqU x u=eqV y x:=by
 cases y with
 |non=>cases r;rfl
 |bl b=>cases r;rfl
 |int i=>obtain⟨t,rfl⟩:=r;rfl
 |str z=>obtain⟨t,rfl⟩:=r;rfl
 |_=>exact absurd (show false=true from f) aW
theorem ahP{x:V}:∀{xs:List V} {us:List Value},Vals xs us->xs.all aeR=true->us.any (eqU x)=xs.any fun y=>eqV y x
 |_,_,.nil,_=>rfl
 |y::xs,u::us,.cons r t,f=>by
  rw[List.all_cons,bE] at f
  rw[bW,bW,aAD r f.1,ahP t f.2]
theorem aeL{A:Around}{s:Shared}{x:V}{v:Value}(rx:RelV x v)(fx:aeR x=true):∀{xs:List V} {us:List Value},Vals xs us->xs.all aeR=true->∀u∈us,SeqAt.EqAt A s u v (eqU x u)
 |_,_,.nil,_=>fun u hu=>by cases hu
 |y::xs,u::us,.cons r t,f=>fun u' hu=>by
  rw[List.all_cons,bE] at f
  rcases aR.mp hu with rfl | hu
  ·rw[aAD r f.1];exact aFQ r rx f.1 fx
  ·exact aeL rx fx t f.2 u' hu
noncomputable def inV(x:V)(xs:List V):Bool:=xs.any fun y=>eqV y x
noncomputable def rIn(K:FG)(neg:Bool):R2:=fun x y H Q=>∃p xs,y=.ref p/\(SqL K H p xs∨SqT K H p xs)/\aeR x=true/\xs.all aeR=true/\Q (.bl (if neg then !inV x xs else inV x xs)) H
theorem axC:OpR X (compareOp .In) (rIn X.K false):=by
 intro pins s σ H x y v u Q I rx ry h
 obtain⟨p,xs,rfl,hq,fx,fs,q⟩:=h
 cases ry
 rcases hq with hq | hq
 ·obtain⟨its,r,pl,hz⟩:=I.list hq
  refine SeqAt.in_listAt (eqU x) pl.isList (fun w hw=>aeL rx fx r fs w (by simpa using hw)) ⟨.bl _,H,I,rfl,?_⟩
  rw[show its.toArray.any (eqU x)=its.any (eqU x) by simp,ahP r fs]
  exact q
 ·obtain⟨its,r,pl,hz⟩:=I.tuple hq
  refine SeqAt.in_tupleAt (eqU x) pl (fun w hw=>aeL rx fx r fs w (by simpa using hw)) ⟨.bl _,H,I,rfl,?_⟩
  rw[show its.toArray.any (eqU x)=its.any (eqU x) by simp,ahP r fs]
  exact q
theorem ao5:OpR X (compareOp .NotIn) (rIn X.K true):=by
 intro pins s σ H x y v u Q I rx ry h
 obtain⟨p,xs,rfl,hq,fx,fs,q⟩:=h
 cases ry
 rcases hq with hq | hq
 ·obtain⟨its,r,pl,hz⟩:=I.list hq
  refine SeqAt.notIn_listAt (eqU x) pl.isList (fun w hw=>aeL rx fx r fs w (by simpa using hw)) ⟨.bl _,H,I,rfl,?_⟩
  rw[show its.toArray.any (eqU x)=its.any (eqU x) by simp,ahP r fs]
  exact q
 ·obtain⟨its,r,pl,hz⟩:=I.tuple hq
  refine SeqAt.notIn_tupleAt (eqU x) pl (fun w hw=>aeL rx fx r fs w (by simpa using hw)) ⟨.bl _,H,I,rfl,?_⟩
  rw[show its.toArray.any (eqU x)=its.any (eqU x) by simp,ahP r fs]
  exact q
theorem aq8:ad6 X (.builtin "len") (fun xs H Q=>∃p ys,xs=[.ref p]/\(SqL X.K H p ys∨SqT X.K H p ys)/\Q (.int ys.length) H):=by
 intro pins s σ H xs us Q I r h
 obtain⟨p,ys,rfl,hq,q⟩:=h
 obtain⟨u,rfl,rx⟩:=acE r
 cases rx
 have hn:=alT
 rcases hq with hq | hq
 ·obtain⟨its,r',pl,hz⟩:=I.list hq
  have hlen:=r'.length
  exact Calls.call_len_list pl.isList (by simp only[bN]<;>omega) ⟨.int ys.length,H,I.tok _,⟨s.toks+1,by rw[bN,hlen]⟩,q⟩
 ·obtain⟨its,r',pl,hz⟩:=I.tuple hq
  have hlen:=r'.length
  exact len_tuple pl (by simp only[bN]<;>omega) ⟨.int ys.length,H,I.tok _,⟨s.toks+1,by rw[bN,hlen]⟩,q⟩
theorem apS:ad6 X (.builtin "len") (fun xs H Q=>∃z,xs=[.str z]/\z.length<=sizeLine/\Q (.int z.length) H):=by
 intro pins s σ H xs us Q I r h
 obtain⟨z,rfl,hz,q⟩:=h
 obtain⟨u,rfl,t,rfl⟩:=acE r
 have hn:=alT
 exact len_str (by omega) ⟨.int z.length,H,I.tok _,⟨_,rfl⟩,q⟩
noncomputable def tyV(K:FG)(T:String)(x:V)(H:Hp):Prop:=match x with
 |.str _=>T="str"
 |.int _=>T="int"
 |.ref p=>(T="list"/\∃xs,SqL K H p xs)∨(T="tuple"/\∃o,K.lookup p=some o/\o.cls=.type "tuple"/\o.dict=none)∨
   (T="dict"/\((∃kvs,H p=some (.dK kvs))∨∃kvs,H p=some (.dT kvs)))∨(T="set"/\∃S n,H p=some (.set S n))
 |_=>False
theorem aAC{pins:List (Addr×Obj)}{σ:St}{H:Hp}{s:Shared}{T:String}{x:V}{v:Value}(I:Inv X pins σ H s)(r:RelV x v)(ty:tyV X.K T x H):
  s.TypeIs v T/\∀a,v=.ref a->∃ob,s.heap.get? a=some ob/\ob.dict=none:=by
 cases x with
 |str z=>
  obtain⟨t,rfl⟩:=r
  cases (show T="str" from ty)
  exact⟨typeIs_str s z t,fun _ e=>nomatch e⟩
 |int i=>
  obtain⟨t,rfl⟩:=r
  cases (show T="int" from ty)
  exact⟨typeIs_int s i t,fun _ e=>nomatch e⟩
 |ref p=>
  cases r
  rcases ty with ⟨rfl,xs,hq⟩ | ⟨rfl,o,hk,hc,hd⟩ | ⟨rfl,hk⟩ | ⟨rfl,S,n,hk⟩
  ·obtain⟨its,_,pl,_⟩:=I.list hq
   refine⟨pl.isList.typeIs,fun a e=>?_⟩
   cases e
   obtain⟨o,n,e,c,hd,_⟩:=pl
   exact⟨o,e,hd⟩
  ·refine⟨⟨o,I.kIn p o hk,hc⟩,fun a e=>?_⟩
   cases e
   exact⟨o,I.kIn _ o hk,hd⟩
  ·have z:∃o,s.heap.get? p=some o/\o.ExactDict:=by
    rcases hk with ⟨kvs,hk⟩ | ⟨kvs,hk⟩
    ·obtain⟨_,_,_,_,o,_,_,e,ex,_⟩:=I.hok p _ hk
     exact⟨o,e,ex⟩
    ·obtain⟨_,_,_,_,o,_,_,e,ex,_⟩:=I.hok p _ hk
     exact⟨o,e,ex⟩
   obtain⟨o,e,ex⟩:=z
   refine⟨⟨o,e,ex.1⟩,fun a e2=>?_⟩
   cases e2
   exact⟨o,e,ex.2.1⟩
  ·obtain⟨o,_,_,_,e,ex,_⟩:=I.hok p _ hk
   refine⟨⟨o,e,ex.1⟩,fun a e2=>?_⟩
   cases e2
   exact⟨o,e,ex.2.1⟩
 |_=>exact False.elim ty
noncomputable def aL9(K:FG)(T:String)(r:V->List V->Hp->VK->Prop)(to:TE):TE:=fun σ H Q=>to σ H fun x H1=>tyV K T x H1/\r x [] H1 Q
noncomputable def tBM(K:FG)(T:String)(r:V->List V->Hp->VK->Prop)(to:TE)(t:TA):TE:=fun σ H Q=>to σ H fun x H1=>tyV K T x H1/\t σ H1 fun xs H2=>r x xs H2 Q
variable{o e:Expr}{es:List Expr}{to:TE}{t:TA}{name:Str}{apos cpos:Pos}{T id:String}{r:V->List V->Hp->VK->Prop}
theorem aEW(pa:PlainAttrs T)(slot:Slot T name id)(hty:typeOf (.builtin id)=pure (.type "method_descriptor"))(hm:MtR X id r)(ho:PE X o to)
  (hbase:attributeBase o name X.env (eval o X.env)=eval o X.env:=by rfl) (hline:(apos.endLine==cpos.line)=true:=by rfl):PE X (.Call (.Attribute o name apos) [] [] cpos) (aL9 X.K T r to):=by
 intro pins s σ H Q I h
 refine wpAny_Call_method0_late hbase hline (thn (ho pins s σ H _ I h) fun v s1 ⟨x,H1,I1,r1,ty,q1⟩=>?_)
 obtain⟨h1,h2⟩:=aAC I1 r1 ty
 exact⟨T,id,pa,slot,hty,h1,h2,Calls.callWith_builtin rfl (PySem.evalArgs_none (hm pins s1 σ H1 x [] v [] Q I1 r1 .nil q1))⟩
theorem asL(pa:PlainAttrs T)(slot:Slot T name id)(hty:typeOf (.builtin id)=pure (.type "method_descriptor"))(hm:MtR X id r)(ho:PE X o to)(ha:PA X (e::es) t)
  (hbase:attributeBase o name X.env (eval o X.env)=eval o X.env:=by rfl)
  (hfew:((backTo cpos (starEach (e::es) X.env)).all (fun x=> !x.1)&&(backToKw cpos (keywordEach [] X.env)).all (fun x=>x.1.isSome)
   &&decide ((e::es).length+([]:List Keyword).length+(if ([]:List Keyword).isEmpty then 0 else 1)<30))=true:=by rfl)
  (hline:(apos.endLine==cpos.line)=true:=by rfl) (hs:starEach (e::es) X.env=(false,eval e X.env)::starEach es X.env:=by rfl) (hplain:(backTo cpos (starEach es X.env)).any (·.1)=false:=by rfl):
  PE X (.Call (.Attribute o name apos) (e::es) [] cpos) (tBM X.K T r to t):=by
 intro pins s σ H Q I h
 refine wpAny_Call_method_late hbase hfew hline rfl (thn (ho pins s σ H _ I h) fun v s1 ⟨x,H1,I1,r1,ty,q1⟩=>?_)
 obtain⟨h1,h2⟩:=aAC I1 r1 ty
 refine⟨T,id,pa,slot,hty,h1,h2,?_⟩
 have hA:=ha cpos pins s1 σ H1 _ I1 q1
 rw[hs] at hA ⊢
 refine Calls.callWith_builtin (by show (false||(backTo cpos (starEach es X.env)).any (·.1))=false;rw[hplain]<;>rfl) (Calls.evalArgs_plain ?_)
 exact thn hA fun us s2 ⟨vs,H2,I2,r2,q2⟩=>hm pins s2 σ H2 x vs v us Q I2 r1 r2 q2
end
noncomputable def MtM(X:Cx)(id:String)(r:V->List V->Hp->VK->Prop):Prop:=
 ∀(pins:List (Addr×Obj)) (s:Shared) (σ:St) (H:Hp) (x:V) (xs:List V) (v:Value) (us:List Value) (Q:VK),Inv X pins σ H s->RelV x v->Vals xs us->r x xs H Q->
  wpAny (model X.prog X.w) X.A (call (.builtin id) (v::us)) (EP X pins σ Q) X.xe s
theorem Vals.one:∀{x:V} {us:List Value},Vals [x] us->∃u,us=[u]/\RelV x u
 |_,_,.cons r .nil=>⟨_,rfl,r⟩
theorem Vals.two:∀{x y:V} {us:List Value},Vals [x,y] us->∃u v,us=[u,v]/\RelV x u/\RelV y v
 |_,_,_,.cons r (.cons q .nil)=>⟨_,_,rfl,r,q⟩
theorem Vals.rep{xs:List V}{us:List Value}(h:Vals xs us):∀k:Nat,Vals (List.replicate k xs).flatten (List.replicate k us).flatten
 |0=>.nil
 |k+1=>by
  rw[dF,dF,cV,cV]
  exact Vals.append h (Vals.rep h k)
theorem aoM(its:List Value):∀(k:Nat) (acc:List Value),
  List.foldl (fun x1 x2=>x1++x2) acc.toArray (List.replicate k its.toArray)=(acc++(List.replicate k its).flatten).toArray
 |0,acc=>by simp
 |k+1,acc=>by
  have e:acc.toArray++its.toArray=(acc++its).toArray:=by simp
  have e2:(acc++its)++(List.replicate k its).flatten=acc++(List.replicate (k+1) its).flatten:=by
   rw[dF,cV,c8]
  rw[←e2,←aoM its k (acc++its),←e,dF,List.foldl_cons]
section
variable{X:Cx}{pins:List (Addr×Obj)}{σ:St}{H:Hp}{s:Shared}{l b:Addr}{xs ys zs:List V}
theorem Inv.lset{its its':List Value}{n:Nat}{f:Array Value->Array Value}{t':Nat}(I:Inv X pins σ H s)(hH:H l=some (.lst xs))
  (e:s.heap.get? l=some {cls:=.type "list",data:=.seq its.toArray n}) (hf:f its.toArray=its'.toArray) (hv:Vals ys its') (hz:ys.length<=sizeLine):
  Inv X pins σ (upd H l (.lst ys)) {s with heap:=s.heap.update l (Obj.mapSeq f),toks:=t'}:=by
 have q:=PySem.IsL.update e f
 rw[hf] at q
 refine I.write (x:=l) (e:=l) (by rw[hH];exact trivial) (.inl rfl) (fun b' u hb hu=>(cD s.heap (Obj.mapSeq f) (Ne.symm hb)).trans hu) ⟨_,q⟩ ?_
 exact⟨hz,its',_,hv,q⟩
theorem Inv.lnew{its:List Value}{t':Nat}(I:Inv X pins σ H s)(hv:Vals ys its)(hz:ys.length<=sizeLine):
  Inv X pins σ (upd H s.heap.objs.size (.lst ys)) {s with heap:=s.heap.push {cls:=.type "list",data:=.seq its.toArray},toks:=t'}:=
 I.laid (fun _ _ q=>aS _ q) (aO _) ⟨hz,its,0,hv,bC _ rfl⟩
theorem Inv.fresh(I:Inv X pins σ H s):H s.heap.objs.size=none:=I.hok.fresh (aO _)
theorem Inv.lstM(I:Inv X pins σ H s)(hH:H l=some (.lst xs)):xs.length<=sizeLine/\∃(its:List Value) (n:Nat),Vals xs its/\xs.length=its.length/\s.heap.get? l=some {cls:=.type "list",data:=.seq its.toArray n}:=by
 obtain⟨z,its,n,r,e⟩:=I.hok l _ hH
 exact⟨z,its,n,r,r.length,e⟩
theorem aAJ{n:Nat}(h:n<=sizeLine):Builtin.List.listTooLong n=false:=by
 unfold Builtin.List.listTooLong
 exact dY (by omega)
end
section
variable{X:Cx}
noncomputable def avT:V->List V->Hp->VK->Prop:=fun x vs H Q=>∃l xs y,x=.ref l/\vs=[y]/\H l=some (.lst xs)/\xs.length<sizeLine/\Q .non (upd H l (.lst (xs++[y])))
theorem aiM:MtM X "list.append" avT:=by
 intro pins s σ H x vs v us Q I rx rv h
 obtain⟨l,xs,y,rfl,rfl,hH,hz,q⟩:=h
 cases rx
 obtain⟨u,rfl,ru⟩:=rv.one
 obtain⟨z,its,n,r,hl,e⟩:=I.lstM hH
 refine call_meets F.slot_list_append ⟨_,e,rfl⟩ F.entry_list_append (F.args_list_append_2 _ _) (PySem.list_append l its.toArray n u (by rw[bN];omega)) ⟨e,?_⟩
 refine⟨.non,_,I.lset (its':=its++[u]) hH e (by simp) (r.append (.cons ru .nil)) ?_,rfl,q⟩
 rw[aP,bL]
 omega
noncomputable def aMH:R2:=fun x y H Q=>∃l b xs zs,x=.ref l/\y=.ref b/\H l=some (.lst xs)/\H b=some (.lst zs)/\xs.length+zs.length<=sizeLine/\∀p,H p=none->Q (.ref p) (upd H p (.lst (xs++zs)))
theorem aF0:OpR X (binaryOp .Add) aMH:=by
 intro pins s σ H x y v u Q I rx ry h
 obtain⟨l,b,xs,zs,rfl,rfl,hH,hB,hz,q⟩:=h
 cases rx
 cases ry
 obtain⟨z,its,n,r,hl,e⟩:=I.lstM hH
 obtain⟨z2,its2,n2,r2,hl2,e2⟩:=I.lstM hB
 refine PySem.P.add_list e e2 ?_ (by rw[bN,bN];omega)
 have ea:its.toArray++its2.toArray=(its++its2).toArray:=by simp
 rw[ea]
 exact⟨.ref _,_,I.lnew (t':=s.toks) (r.append r2) (by rw[aP];omega),rfl,q _ I.fresh⟩
noncomputable def aND:R2:=fun x y H Q=>∃l k xs,x=.ref l/\y=.int k/\H l=some (.lst xs)/\ -(2^63)<=k/\k<2^63/\xs.length*k.toNat<=sizeLine/\
 ∀p,H p=none->Q (.ref p) (upd H p (.lst (List.replicate k.toNat xs).flatten))
theorem aCR{α:Type}(xs:List α)(k:Nat):(List.replicate k xs).flatten.length=k*xs.length:=by
 induction k with
 |zero=>simp
 |succ k ih=>rw[dF,cV,aP,ih,Nat.succ_mul,Nat.add_comm]
theorem aEO:OpR X (binaryOp .Mult) aND:=by
 intro pins s σ H x y v u Q I rx ry h
 obtain⟨l,k,xs,rfl,rfl,hH,h1,h2,hz,q⟩:=h
 cases rx
 obtain⟨t,rfl⟩:=ry
 obtain⟨z,its,n,r,hl,e⟩:=I.lstM hH
 have hlen:its.toArray.size*k.toNat<=sizeLine:=by rw[bN,←hl];exact hz
 have hcap:¬its.toArray.size*k.toNat>(2^63-1) / 8:=by
  have:(sizeLine:Nat)<=(2^63-1) / 8:=by decide
  omega
 have hfit:¬(!Builtin.List.listFitsIndex k)=true:=by
  rw[fitsIndex_both h1 h2]
  exact aW
 have hlong:¬Builtin.List.listTooLong (its.toArray.size*k.toNat)=true:=by
  rw[aAJ hlen]
  exact aW
 have hnew:List.foldl (fun x1 x2=>x1++x2) #[] (List.replicate (if its.toArray.isEmpty=true then 0 else k.toNat) its.toArray)=(List.replicate k.toNat its).flatten.toArray:=by
  have f0:∀m:Nat,List.foldl (fun x1 x2=>x1++x2) #[] (List.replicate m its.toArray)=(List.replicate m its).flatten.toArray:=fun m=>by
   have:=aoM its m []
   rw[List.nil_append] at this
   exact this
  rw[f0]
  cases its with
  |nil=>simp
  |cons a r'=>rw[if_neg (by simp)]
 refine wpAny_binaryOp_repeat_ref (T:="list") (U:="int") (by decide) ⟨_,e,rfl⟩ (fun s'=>typeIs_int s' k t) noFill_list_mul F.fills_int_mul F.slot_int_rmul repeat_list F.slot_int_index.lookup
  (call_meets F.slot_int_rmul (typeIs_int s k t) F.entry_int_rmul (F.args_int_rmul_2 _ _) (int___rmul___int_list k t l its.toArray n)
   ⟨e,rfl,⟨_,e,rfl⟩,call_meets F.slot_list_mul ⟨_,e,rfl⟩ F.entry_list_mul (F.args_list_mul_2 _ _) (AutoListH.list___mul___list_int_3 l its.toArray n k t hfit hcap hlong) ⟨e,?_⟩⟩)
 rw[hnew]
 exact⟨.ref _,_,I.lnew (t':=s.toks) (r.rep k.toNat) (by rw[aCR,Nat.mul_comm];exact hz),rfl,q _ I.fresh⟩
end
section
variable{prog:Program}{w:World}{A:Around}{E:Value->Shared->Prop}{s:Shared}
end
section
variable{X:Cx}
end
end L2
namespace Att
open PySem PySem.W PySem.Calls PyProof.Rows
theorem ajV{P:Params}{h:Heap}:∀(ns:List Int) (vs:List Value),WellAll P h vs (ns.map WData.int)->IntsAre vs ns:=by
 intro ns
 induction ns with
 |nil=>
  intro vs w
  rw[List.map_nil] at w
  cases w
  exact .nil
 |cons n ns ih=>
  intro vs w
  rw[List.map_cons] at w
  cases w with
  |cons a b=>
   cases a
   exact .cons _ _ (ih _ b)
theorem ayB{l:OpenLaw}{n:Nat}(hn:l.most=some n){P:Params}{h:Heap}{args:List WData}{vals:List Value}
  (hpre:l.row.toRowW.claim.pre args=true) (hwl:WellAll P h vals args):
  ∃a vs ns,vals=[Value.ref a]/\args=[WData.list (ns.map WData.int)]/\h.get? a=some {cls:=.type "list",data:=.seq vs.toArray}/\IntsAre vs ns/\ns.length<=n:=by
 have hsh:WShape.hasAll [] args [.list .int]=true:=(pre_splitW hpre).1
 have hc:l.pre.holds [] {args:=args}=true:=(pre_splitW hpre).2
 obtain⟨d,r,rfl,h1,h2⟩:=hasAllW_cons hsh
 obtain rfl:=hasAllW_nil h2
 obtain⟨xs,rfl,h3⟩:=hasW_list h1
 obtain⟨ns,rfl⟩:=items_int h3
 have hlen:ns.length<=n:=by
  unfold OpenLaw.pre at hc
  have h4:(WTm.not (.lt (.lit (.int (n:Int))) (.len (.arg 0)))).holds [] {args:=[.list (ns.map .int)]}=true:=by
   have h4:=(holds_andW hc).1
   rw[hn] at h4
   exact h4
  have h5:=condW_of h4 (w_not (w_lt w_lit (w_len_list (w_arg rfl))))
  rw[List.length_map] at h5
  refine Nat.le_of_not_lt fun q=>?_
  have q':(n:Int)<((ns.length:Nat):Int):=by omega
  first
   |(rw[decide_eq_true q'] at h5;exact absurd h5 (by decide))
   |(simp at h5;omega)
 cases hwl with
 |cons w1 w2=>
  cases w2
  cases w1 with
  |list ho hall=>exact⟨_,_,ns,rfl,rfl,ho,ajV ns _ hall,hlen⟩
theorem ayA(l:OpenLaw)(args:List WData):l.row.toRowW.claim.post args (.bool true) args=true:=
 postW_of (r:=l.row.toRowW) (X:=(true==true))
  (show WShape.has [] (.bool true) .bool=true by first | rfl | decide | simp[WShape.has,WShape.arms,WShape.armsAll])
  (show (WTm.eq .res (.lit (.bool true))).value [] {args:=args,res:=some (.bool true),after:=args}=some (.bool (true==true)) from w_eq_bool (w_res rfl) w_lit) rfl
theorem attach_call{l:OpenLaw}{n:Nat}{q:Program}{loose:List Str}{XP:(Str->Option Value)->Heap->Prop}{YP:World->Heap->Prop}{d:DefRec}
  (hn:l.most=some n) (hdf:d.params.defaults=[])
  (call:∀(w:World) (s₀ s₁:Shared) (mg mb:Str->Option Value) (fa:Addr) (o:Obj) (pm cd doc:Value) (a:Addr) (vs:List Value) (ns:List Int),
   Ground q loose [] XP w s₀ mg mb s₁.heap->YP w s₁.heap->
   s₁.heap.get? fa=some o->o.data=.func (docDef d.name d.params d.body d.scope pm cd doc)->s₁.heap.CodeRec cd d.name->mg d.name=some (.ref fa)->
   s₁.heap.get? a=some {cls:=.type "list",data:=.seq vs.toArray}->IntsAre vs ns->ns.length<=n->s₁.gens= #[]->
   codeAny (model l.prog w) callerA (.call (.ref fa) ⟨[.ref a],[]⟩) (fun r s'=>r=.ok (.ret (.bool true))/\OldK s₁.heap s'.heap/\s'.os=s₁.os/\AllBare s'.gens) s₁):
  WalkO q loose XP YP l.row.toRowW d [] (fun f vs=>PySem.call f vs):=by
 intro w s₀ s₁ mg mb G Y fa o pm cd doc dV kV ho hd hcd hD hmg hg args vals as hpre hlay hrd hwl hlo
 obtain rfl:dV=.none:=Dflts.none hD hdf
 obtain rfl:kV=.none:=Dflts.noKw hD
 obtain⟨a,vs,ns,rfl,rfl,hobj,hints,hlen⟩:=ayB hn hpre hwl
 refine enter_call (codeAny_mono (call w s₀ s₁ mg mb fa o pm cd doc a vs ns G Y ho (fd_plain hd) hcd hmg hobj hints hlen hg) fun r s' hq=>?_)
 obtain⟨rfl,h2,h3,h4⟩:=hq
 exact⟨.inl ⟨.bool true,.bool true,[],rfl,fun _=>rfl,.bool true,ayA l _,fun _=>⟨List.Pairwise.nil,fun _ hm=>(nomatch hm)⟩⟩,h2,h3,h4⟩
section
variable{prog:Program}{w:World}{A:Around}{E:Value->Shared->Prop}{s:Shared}{K:Frag}
end
end Att
namespace L2
open PySem PySem.Spec PyProof.Rows
theorem aiS:∀{vs:List Value} {ns:List Int},IntsAre vs ns->Vals (ns.map V.int) vs
 |_,_,.nil=>.nil
 |_,_,.cons n t h=>.cons ⟨t,rfl⟩ (aiS h)
noncomputable def aE4(H:Hp):Prop:=∀b,H b=none∨∃o xs,H b=some (.frz o (.lst xs))
theorem ayY{P:Program}{w:World}{K:FG}{mg mb:Str->Option Value}{CX:CXT}{k:Nat}{fa a:Addr}{fd:FuncData}{x:Str}{sp:Sp}{s₁:Shared}{vs:List Value}{ns:List Int}
  (KX:K.In s₁.heap) (hns:s₁.heap.Ns mainGlobals mg) (hb:s₁.heap.Ns builtinsNs mb) (hbb:∀x:Str,x≠"__name__"->mb x=bootBuiltins x) (hlim:s₁.heap.NoLimit) (hg:s₁.gens= #[])
  (ha:s₁.heap.get? a=some {cls:=.type "list",data:=.seq vs.toArray}) (hi:IntsAre vs ns) (hl:ns.length<=sizeLine) (hr:Room k callerA)
  (F:∀base:Heap,K.In base->base.Ns mainGlobals mg->FnOk P w K mg base CX k fa fd [x] sp) (hbind:∀(s:Shared) (u:Value),BindsTo s fd ⟨[u],[]⟩ [(x,u)])
  (hsp:∀H:Hp,aE4 H->SqL K H a (ns.map V.int)->sp [.ref a] H (fun v _=>v=.bl true) fun _ _ _=>False)
  (hCX:∀H e s',CX [] H s₁ (fun _ _ _=>False) e s'->False):
  codeAny (model P w) callerA (.call (.ref fa) ⟨[.ref a],[]⟩) (fun r s'=>r=.ok (.ret (.bool true))/\OldK s₁.heap s'.heap/\s'.os=s₁.os/\AllBare s'.gens) s₁:=by
 have rv:=aiS hi
 have lenV:=hi.length
 -- from an abstract heap in which nothing but the script may be tracked
 have core:∀H:Hp,aE4 H->SqL K H a (ns.map V.int)->HOk P w H s₁.heap->(∀b,H b≠none->b=a)->(H a≠none->K.lookup a=none)->
   codeAny (model P w) callerA (.call (.ref fa) ⟨[.ref a],[]⟩) (fun r s'=>r=.ok (.ret (.bool true))/\OldK s₁.heap s'.heap/\s'.os=s₁.os/\AllBare s'.gens) s₁:=by
  intro H hO hS hok hA hK
  have base_of:∀{b:Addr} {o:Obj},s₁.heap.get? b=some o->H b=none->(aqG s₁.heap H).get? b=some o:=fun e n=>aAG e n
  have noA:∀{b:Addr} {o:Obj} {es:Array DictEntry} {ep:Nat},s₁.heap.get? b=some o->o.data=.dict es ep->H b=none:=fun {b o es ep} e d=>by
   cases q:H b with
   |none=>rfl
   |some u=>
    have e':b=a:=hA b (by rw[q];simp)
    subst e'
    rw[ha] at e;cases e
    have d':Data.seq vs.toArray _=Data.dict es ep:=d
    cases d'
  have nsK:∀{b:Addr} {m:Str->Option Value},s₁.heap.Ns b m->(aqG s₁.heap H).Ns b m:=fun {b m} ⟨o,es,ep,e,d,r⟩=>⟨o,es,ep,base_of e (noA e d),d,r⟩
  have hKb:K.In (aqG s₁.heap H):=fun b o e=>base_of (KX b o e) (by
   cases q:H b with
   |none=>rfl
   |some u=>
    have e':b=a:=hA b (by rw[q];simp)
    subst e'
    rw[hK (by rw[q];simp)] at e;cases e)
  have hM:Mod K mg (aqG s₁.heap H):=⟨hKb,nsK hns,⟨mb,nsK hb,hbb⟩,let ⟨mc,h1,h2⟩:=hlim;⟨mc,nsK h1,h2⟩⟩
  have e0:Env0 P w K mg (aqG s₁.heap H) callerA [] s₁ H:=⟨rfl,hM,fun b o e=>aCQ e,Nat.le_of_eq (ayG _ _),trivial,fun b hb=>absurd (show b∈([]:List Addr) from hb) (by simp),hok,.of_eq hg⟩
  refine codeAny_mono ((F _ hKb (nsK hns)).run callerA [] s₁ H ⟨[.ref a],[]⟩ [.ref a] [.ref a] _ _ hr e0 (hbind s₁ (.ref a)) (.cons rfl .nil) (hsp H hO hS)) fun r s' h=>?_
  cases r with
  |error e=>exact (hCX H e s' h).elim
  |ok fl=>
   cases fl with
   |next=>exact False.elim h
   |brk=>exact False.elim h
   |cont=>exact False.elim h
   |ret u=>
    obtain⟨v,H',os,bare,un,hok',r',q⟩:=h
    have q':v=.bl true:=q
    subst q'
    obtain rfl:u=Value.bool true:=r'
    refine⟨rfl,OldK.of_keep fun b o e=>?_,os,bare⟩
    cases q:H b with
    |none=>exact un.keep b o e q (by intro z;exact absurd (show b∈([]:List Addr) from z) (by simp)) (by simp)
    |some u=>
     rcases hO b with z | ⟨ob,xs,z⟩
     ·rw[q] at z;cases z
     ·have z2:=un.frzs b ob _ z
      obtain⟨e1,_⟩:=hok b _ z
      obtain⟨e2,_⟩:=hok' b _ z2
      rw[e] at e1;cases e1
      exact e2
 cases hk:K.lookup a with
 |some o=>
  -- the script is one of the module's own objects
  have e:=KX a o hk
  rw[ha] at e
  cases e
  refine core (fun _=>none) (fun _=>.inl rfl) (.inr ⟨_,vs.toArray,_,hk,rfl,rfl,rfl,by rw[bN,lenV];exact hl,by simpa using rv⟩) (fun b u z=>by have z':(none:Option HO)=some u:=z;cases z') (fun b z=>absurd rfl z) fun z=>absurd rfl z
 |none=>
  refine core (fun b=>if b=a then some (.frz {cls:=.type "list",data:=.seq vs.toArray} (.lst (ns.map V.int))) else none) (fun b=>?_) (.inl (.inr ⟨{cls:=.type "list",data:=.seq vs.toArray},if_pos rfl⟩)) (fun b u z=>?_) (fun b z=>?_) fun _=>hk
  ·by_cases hb:b=a
   ·exact .inr ⟨_,_,if_pos hb⟩
   ·exact .inl (if_neg hb)
  ·by_cases hb:b=a
   ·have z':=(if_pos hb).symm.trans z
    cases z'
    subst hb
    exact⟨ha,by rw[aM];exact hl,vs,_,rv,ha⟩
   ·have z':=(if_neg hb).symm.trans z
    cases z'
  ·by_cases hb:b=a
   ·exact hb
   ·exact absurd (if_neg hb) z
theorem walk_of{l:PySem.W.OpenLaw}{n k:Nat}{q:Program}{loose:List Str}{XP:(Str->Option Value)->Heap->Prop}{YP:World->Heap->Prop}{d:DefRec}{K:Params->FG}{CX:World->CXT}{sp:World->Sp}{x:Str}
  (hn:l.most=some n) (hn2:n<=sizeLine) (hdf:d.params.defaults=[]) (hr:Room k callerA)
  (hY:∀(w:World) (h:Heap),YP w h->(K w.params).In h)
  (F:∀(w:World) (mg:Str->Option Value) (fa:Addr) (h:Heap),(K w.params).In h->h.Ns mainGlobals mg->mg d.name=some (.ref fa)->
   ∃fd:FuncData,(∀(s:Shared) (u:Value),BindsTo s fd ⟨[u],[]⟩ [(x,u)])/\
    ∀base:Heap,(K w.params).In base->base.Ns mainGlobals mg->FnOk l.prog w (K w.params) mg base (CX w) k fa fd [x] (sp w))
  (hsp:∀(w:World) (H:Hp) (a:Addr) (ns:List Int),ns.length<=n->aE4 H->SqL (K w.params) H a (ns.map V.int)->sp w [.ref a] H (fun v _=>v=.bl true) fun _ _ _=>False)
  (hCX:∀(w:World) (H:Hp) (s:Shared) (e:Value) (s':Shared),CX w [] H s (fun _ _ _=>False) e s'->False):
  PySem.W.WalkO q loose XP YP l.row.toRowW d [] (fun f vs=>PySem.call f vs):=by
 refine Att.attach_call hn hdf fun w s₀ s₁ mg mb fa o pm cd doc a vs ns G Y ho hd hcd hmg hobj hints hlen hg=>?_
 have KX:=hY w _ Y
 obtain⟨fd,hb,hF⟩:=F w mg fa _ KX G.T.g hmg
 exact ayY KX G.T.g G.T.b G.T.builtins G.T.nolimit hg hobj hints (bJ hlen hn2) hr hF hb (fun H hO hS=>hsp w H a ns hlen hO hS) fun H e s'=>hCX w H s₁ e s'
noncomputable def aaP(s:Stmt)(j:Nat):Stmt:=match s with
 |.ClassDef _ _ _ body _ _ _ _ _ _ _=>body.getD j (.Pass ⟨0,0,0,0⟩)
 |_=>.Pass ⟨0,0,0,0⟩
noncomputable def abS(s:Stmt):Arguments:=match s with
 |.FunctionDef _ a _ _ _ _ _ _ _ _=>a
 |_=>{posonlyargs:=[],args:=[],vararg:=none,kwonlyargs:=[],kw_defaults:=[],kwarg:=none,defaults:=[]}
noncomputable def aaY(s:Stmt):List Stmt:=match s with
 |.FunctionDef _ _ b _ _ _ _ _ _ _=>b
 |_=>[]
noncomputable def aaC(s:Stmt):Scope:=match s with
 |.FunctionDef _ _ _ _ _ _ sc _ _ _=>sc
 |_=>{kind:=.function,names:=[],isGenerator:=false,isCoroutine:=false}
noncomputable abbrev CX0:CXT:=fun _ _ _ _ _ _=>False
noncomputable abbrev E0:XK:=fun _ _ _=>False
theorem aoP{X:Cx}:aeP CX0 X E0:=fun _ _ _ _ _ _ _ h=>h.elim
structure Fun(K:FG)(x qual:Str)(st:Stmt)(f:Addr)(fd:FuncData):Prop where
 ex:∃(oc:Value) (od:Option Addr) (kV doc pm:Value) (an:Option Addr) (cdv ct:Value) (osl:Array (Option Value)),
  fd=PySem.W.fnOf x qual (abS st) (aaY st) (aaC st) .none kV doc pm an cdv ct/\K.lookup f=some ⟨oc,od,.func fd,osl⟩/\PySem.W.codeIn K cdv qual=true
 kp:PySem.W.keepIn K (.ref f)=true
section
variable{P:Program}{w:World}{K:FG}{mg:Str->Option Value}{base:Heap}
theorem Fun.ok{x qual:Str}{st:Stmt}{f:Addr}{fd:FuncData}{N ps:List Str}{k:Nat}{sp:Sp}(F:Fun K x qual st f fd)(S:FnScope N ps (aaC st))(len:∀vs H Q E,sp vs H Q E->vs.length=ps.length)
  (hbody:∀(cdv:Value) (A:Around) (outer:List Env) (s:Shared) (H:Hp) (vs:List V) (Q:VK) (E:XK),Room k (A.deeper (envOfC qual (aaC st) s.heap.objs.size f cdv))->sp vs H Q E->
   ∃t,PSs (alI CX0 P w K mg base N qual (aaC st) f cdv A outer s H E).nox (aaY st) t/\t {nx:=fun _ H'=>Q .non H',rt:=Q} (start N vs) H):FnOk P w K mg base CX0 (k+1) f fd ps sp:=by
 obtain⟨oc,od,kV,doc,pm,an,cdv,ct,osl,rfl,lk,hcd⟩:=F.ex
 refine aC5 lk hcd S len fun A outer s H vs Q E hr hsp=>?_
 obtain⟨t,h,q⟩:=hbody cdv A outer s H vs Q E hr hsp
 exact⟨t,h.nox,q⟩
theorem Fun.binds{x qual:Str}{st:Stmt}{f:Addr}{fd:FuncData}{ps:List Str}(F:Fun K x qual st f fd)
  (h:∀(kV doc pm:Value) (an:Option Addr) (cdv ct:Value) (us:List Value),us.length=ps.length->bindArgs (PySem.W.fnOf x qual (abS st) (aaY st) (aaC st) .none kV doc pm an cdv ct) ⟨us,[]⟩=pure (ps.zip us)):Binds K fd ps []:=by
 obtain⟨oc,od,kV,doc,pm,an,cdv,ct,osl,rfl,lk,hcd⟩:=F.ex
 exact .all (h kV doc pm an cdv ct)
theorem auX{x qual:Str}{st:Stmt}{f:Addr}{oc:Value}{od an:Option Addr}{osl:Array (Option Value)}{kV doc pm cdv ct:Value}(l:K.lookup f=some ⟨oc,od,.func (PySem.W.fnOf x qual (abS st) (aaY st) (aaC st) .none kV doc pm an cdv ct),osl⟩)
  (c:PySem.W.codeIn K cdv qual=true) (k:PySem.W.keepIn K (.ref f)=true):Fun K x qual st f (PySem.W.fnOf x qual (abS st) (aaY st) (aaC st) .none kV doc pm an cdv ct):=⟨⟨oc,od,kV,doc,pm,an,cdv,ct,osl,rfl,l,c⟩,k⟩
end
section
variable{X:Cx}
end
theorem aaX{A B:Prop}(h:B):if false=true then A else B:=by
 rw[if_neg aW]
 exact h
theorem abH{A B:Prop}(h:A):if true=true then A else B:=by
 rw[if_pos rfl]
 exact h
theorem aFL{c A B:Prop}[Decidable c](h1:c->A)(h2:¬c->B):if c then A else B:=by
 by_cases h:c
 ·rw[if_pos h]
  exact h1 h
 ·rw[if_neg h]
  exact h2 h
noncomputable def Same(H H':Hp):Prop:=∀b o,H b=some o->H' b=some o
theorem Same.refl(H:Hp):Same H H:=fun _ _ h=>h
theorem Same.trans{H H1 H2:Hp}(a:Same H H1)(b:Same H1 H2):Same H H2:=fun c o h=>b c o (a c o h)
theorem Same.free{H H':Hp}(e:Same H H'){l:Addr}(h:H' l=Option.none):H l=Option.none:=by
 cases q:H l with
 |none=>rfl
 |some o=>
  rw[e l o q] at h
  cases h
theorem Same.seq{K:FG}{H H':Hp}{a:Addr}{xs:List V}(e:Same H H')(h:SqL K H a xs):SqL K H' a xs:=by
 rcases h with (h | ⟨o,h⟩) | h
 ·exact .inl (.inl (e _ _ h))
 ·exact .inl (.inr ⟨o,e _ _ h⟩)
 ·exact .inr h
section
variable{X:Cx}
theorem at5:ad6 X (.builtin "isinstance") (fun xs H Q=>∃i:Int,xs=[.int i,.ty "int"]/\Q (.bl true) H):=by
 intro pins s σ H xs us Q I r h
 obtain⟨i,rfl,q⟩:=h
 obtain⟨u,w',rfl,⟨t,rfl⟩,r2⟩:=ar4 r
 cases r2
 exact PySem.IsiPair.int_int ⟨.bl true,H,I,rfl,q⟩
theorem avH:ad6 X (.builtin "isinstance") (fun xs H Q=>∃i:Int,xs=[.int i,.ty "bool"]/\Q (.bl false) H):=by
 intro pins s σ H xs us Q I r h
 obtain⟨i,rfl,q⟩:=h
 obtain⟨u,w',rfl,⟨t,rfl⟩,r2⟩:=ar4 r
 cases r2
 exact PySem.IsiPair.int_bool ⟨.bl false,H,I.tok _,rfl,q⟩
end
structure Df(P:Program)(w:World)(K:FG)(mg:Str->Option Value)(base:Heap)(x:Str)(k:Nat)(ps:List Str)(sp:Sp):Prop where
 ex:∃(f:Addr) (fd:FuncData),FnOk P w K mg base CX0 k f fd ps sp/\Binds K fd ps []/\mg x=some (.ref f)/\PySem.W.keepIn K (.ref f)=true
structure Fn(K:FG)(mg:Str->Option Value)(x:Str)(st:Stmt)(ps:List Str):Prop where
 ex:∃(f:Addr) (fd:FuncData),Fun K x x st f fd/\Binds K fd ps []/\mg x=some (.ref f)
section
variable{P:Program}{w:World}{K:FG}{mg:Str->Option Value}{base:Heap}{x:Str}{st:Stmt}{ps N:List Str}{k:Nat}{sp:Sp}
theorem Fn.df(F:Fn K mg x st ps)(S:FnScope N ps (aaC st))(len:∀vs H Q E,sp vs H Q E->vs.length=ps.length)
  (hbody:∀(f:Addr) (cdv:Value) (A:Around) (outer:List Env) (s:Shared) (H:Hp) (vs:List V) (Q:VK) (E:XK),Room k (A.deeper (envOfC x (aaC st) s.heap.objs.size f cdv))->sp vs H Q E->
   ∃t,PSs (alI CX0 P w K mg base N x (aaC st) f cdv A outer s H E).nox (aaY st) t/\t {nx:=fun _ H'=>Q .non H',rt:=Q} (start N vs) H):Df P w K mg base x (k+1) ps sp:=by
 obtain⟨f,fd,F1,hb,hm⟩:=F.ex
 exact⟨⟨f,fd,F1.ok S len (hbody f),hb,hm,F1.kp⟩⟩
theorem aaI{h:Heap}{f:Addr}{oc:Value}{od an:Option Addr}{osl:Array (Option Value)}{kV doc pm cdv ct:Value}(X:K.In h)(G:h.Ns mainGlobals mg)
  (a:PySem.W.nsIn K mainGlobals x=some (some (.ref f))) (l:K.lookup f=some ⟨oc,od,.func (PySem.W.fnOf x x (abS st) (aaY st) (aaC st) .none kV doc pm an cdv ct),osl⟩)
  (c:PySem.W.codeIn K cdv x=true) (k:PySem.W.keepIn K (.ref f)=true)
  (hb:∀(kV doc pm:Value) (an:Option Addr) (cdv ct:Value) (us:List Value),us.length=ps.length->bindArgs (PySem.W.fnOf x x (abS st) (aaY st) (aaC st) .none kV doc pm an cdv ct) ⟨us,[]⟩=pure (ps.zip us)):Fn K mg x st ps:=by
 have F:=auX (st:=st) l c k
 exact⟨⟨f,_,F,F.binds (ps:=ps) hb,PySem.W.mg_of X G a⟩⟩
end
section
variable{X:Cx}
theorem azM{x:Str}{k k':Nat}{ps:List Str}{sp:Sp}{e:Expr}{es:List Expr}{t:TA}{p pos:Pos}(D:Df X.prog X.w X.K X.mg X.base x k ps sp)(hr:Room k' X.A)(ha:PA X (e::es) t)(hk:k<=k':=by decide)(hg:Gl X x:=by rfl)
  (hdb:(x==("__debug__":Str))=false:=by decide) (he:starEach (e::es) X.env=(false,eval e X.env)::starEach es X.env:=by rfl) (hpl:(backTo pos (starEach es X.env)).any (·.1)=false:=by rfl):
  PE X (.Call (.Name x p) (e::es) [] pos) (awY sp [] E0 t):=by
 obtain⟨f,fd,F,hb,hm,kp⟩:=D.ex
 exact aBD F (hr.mono hk) hg hm kp hb .nil aoP ha hdb he hpl
end
theorem aaB{H:Hp}{p:Addr}(h:H p=none)(o:HO):Same H (upd H p o):=fun b u q=>by rw[aaH (aaL q h)];exact q
theorem int_eq{a b:Int}:(V.int a=V.int b)↔a=b:=⟨fun h=>V.int.inj h,fun h=>by rw[h]⟩
theorem ifI{a b:Int}{A B:Prop}(h1:a=b->A)(h2:¬a=b->B):if decide (V.int a=V.int b)=true then A else B:=
 aFL (fun c=>h1 (int_eq.mp (dS c))) (fun c=>h2 fun e=>c (dU (int_eq.mpr e)))
theorem aI3{a b:Int}{A B:Prop}(h1:¬a=b->A)(h2:a=b->B):if (!decide (V.int a=V.int b))=true then A else B:=by
 by_cases e:a=b
 ·rw[dU (int_eq.mpr e)];exact aaX (h2 e)
 ·rw[dY fun q=>e (int_eq.mp q)];exact abH (h1 e)
theorem ifD{c:Prop}[Decidable c]{A B:Prop}(h1:c->A)(h2:¬c->B):if decide c=true then A else B:=
 aFL (fun q=>h1 (dS q)) (fun q=>h2 fun e=>q (dU e))
theorem ifNe{a b:Int}{A B:Prop}(e:a=b)(h:B):if (!decide (V.int a=V.int b))=true then A else B:=by
 rw[dU (int_eq.mpr e)];exact aaX h
noncomputable def asA:Expr->Option Int
 |.Constant (.int i) _ _=>some i
 |_=>none
noncomputable def aDB(is:List Int):TA:=fun _ H Q=>Q (is.map V.int) H
theorem awU{X:Cx}:∀{es:List Expr} (is:List Int),es.map asA=is.map some->PA X es (aDB is)
 |[],[],_=>afF
 |[],_::_,h=>by cases h
 |_::_,[],h=>by cases h
 |e::es,i::is,h=>by
  have h1:asA e=some i:=(List.cons.inj h).1
  have h2:es.map asA=is.map some:=(List.cons.inj h).2
  obtain⟨j,pos,rfl⟩:∃j pos,e=.Constant (.int i) j pos:=by
   unfold asA at h1
   split at h1
   ·cases h1
    exact⟨_,_,rfl⟩
   ·cases h1
  exact adC ayR (awU is h2)
structure Clos(X:Cx)(scope:Scope)(cl:List (Str×Addr)):Prop where
 is:closureFor scope X.env=pure cl
 sub:∀y c,cl.lookup y=some c->X.env.cells.lookup y=some c
 has:∀y,scope.names.lookup y=some .free->∃c,cl.lookup y=some c
 nocell:∀y∈scope.names,y.2≠ .cell
 kind:scope.kind=.function
 names:∀y∈scope.names,y.2=.local->scope.names.lookup y.1=some .local
noncomputable def aaN(X:Cx)(N:List Str)(scope:Scope)(cl:List (Str×Addr))(C:Addr)(ex:List Addr)(pins:List (Addr×Obj))(s:Shared)(H:Hp):Cx:=
 {X with N:=N,s₀:=s,H₀:=H,env:=compEnvC scope cl C X.env,outer:=X.stack,stack:=X.stack,ex:=ex,fn:=fun _=>false,pn:=X.pn++pins,xe:=fun _ _=>False}
noncomputable def aaW(js:List Nat)(σ:St):St:=js.map fun j=>(σ[j]?).getD none
noncomputable def awC(ifs:List Expr)(env:Env):Sem Bool:=
 forIn ifs true fun c r=>if r=true then (do let ok ←isTrue c env (eval c env);pure (ForInStep.yield ok)) else pure (ForInStep.yield r)
noncomputable def PF(X:Cx)(ifs:List Expr)(t:TT):Prop:=
 ∀(pins:List (Addr×Obj)) (s:Shared) (σ:St) (H:Hp) (Q:Bool->Hp->Prop),Inv X pins σ H s->t σ H Q->
  wpAny (model X.prog X.w) X.A (awC ifs X.env) (TP X pins σ Q) X.xe s
noncomputable def aNM:TT:=fun _ H Q=>Q true H
theorem aEV{X:Cx}:PF X [] aNM:=fun _ _ _ H _ I h=>wpAny_tests_nil ⟨H,I,h⟩
theorem aE2{X:Cx}{c:Expr}{t:TT}(h:PT X c t):PF X [c] t:=fun pins s σ H Q I q=>wpAny_tests_one (h pins s σ H Q I q)
noncomputable def asX(J:It)(js:List Nat)(σ:St)(tt:TT)(te:TE)(Q:VK)(H1:Hp):Prop:=∀D,H1 D=none->∃W:Nat->Nat->Hp->Prop,(∃m,W 0 m (upd H1 D (.lst [])))/\∀i m H2,W i m H2->
 (J.stop i H2/\Q (.ref D) H2)∨(J.go i H2/\∀v H3,J.yld i H2 v H3->tt (some v::aaW js σ) H3 fun b H4=>if b=true then
  te (some v::aaW js σ) H4 fun y H5=>∃ys,H5 D=some (.lst ys)/\ys.length<sizeLine/\∃m',m'<m/\W (i+1) m' (upd H5 D (.lst (ys++[y])))
  else ∃m',m'<m/\W (i+1) m' H4)
noncomputable def azQ(wi:TI)(js:List Nat)(tt:TT)(te:TE):TE:=fun σ H Q=>wi σ H fun J H1=>asX J js σ tt te Q H1
noncomputable def apB(env:Env)(n:Str)(k:NameKind):NameKind:=if (k==NameKind.free&&env.scope.kind== .function&&env.kindOf n==some .cell) then .cell else k
theorem aBN{env:Env}{n:Str}{k:NameKind}:(if (k==NameKind.free&&env.scope.kind== .function&&env.kindOf n==some .cell) then (n,NameKind.cell) else (n,k))=(n,apB env n k):=by
 unfold apB
 split<;>rfl
theorem afL{env:Env}:∀(names:List (Str×NameKind)) (x:Str),(relabel {kind:=.function,names:=names,isGenerator:=false,isCoroutine:=false} env).names.lookup x=(names.lookup x).map (apB env x)
 |[],_=>rfl
 |(n,k)::r,x=>by
  have ih:=afL (env:=env) r x
  unfold relabel at ih ⊢
  dsimp only at ih ⊢
  rw[bR]
  dsimp only
  rw[aBN,c9,c9,ih]
  cases hx:x==n with
  |true=>
   have e:x=n:=by simpa using hx
   rw[e]
   rfl
  |false=>rfl
theorem ad1{env:Env}(scope:Scope)(x:Str):(relabel scope env).names.lookup x=(scope.names.lookup x).map (apB env x):=afL scope.names x
theorem anW{env:Env}{x:Str}{o:Option NameKind}(hc:o≠some .cell)(h:o.map (apB env x)=some .cell∨o.map (apB env x)=some .free):o=some .free:=by
 cases o with
 |none=>rcases h with h | h<;>cases h
 |some k=>
  by_cases e:k=.free
  ·rw[e]
  ·have z:apB env x k=k:=by
    unfold apB
    have e':(k==NameKind.free)=false:=by simpa using e
    rw[e']
    rfl
   rw[Option.map_some,z] at h
   rcases h with h | h
   ·exact absurd h hc
   ·exact h
theorem ahI{env:Env}{scope:Scope}{x:Str}(h:scope.names.lookup x=some .free):(relabel scope env).names.lookup x=some .cell∨(relabel scope env).names.lookup x=some .free:=by
 rw[ad1,h,Option.map_some]
 unfold apB
 split
 ·exact .inl rfl
 ·exact .inr rfl
section
variable{X:Cx}{elt iter:Expr}{x:Str}{px pos:Pos}{ifs:List Expr}{scope:Scope}{cl:List (Str×Addr)}{N':List Str}{js:List Nat}{tt:TT}{te:TE}
theorem auO{pins:List (Addr×Obj)}{σ:St}{H:Hp}{s s4:Shared}{fp:List Addr}{C:Addr}{m4:Str->Option Value}(hcl:Clos X scope cl)(hN:js.map (fun j=>X.N[j]?)=N'.map some)
  (hk:N'.all (fun y=>(X.env.kindOf y==some .cell)||(X.env.kindOf y==some .free))=true) (hf:N'.all (fun y=>scope.names.lookup y==some .free)=true)
  (I:Inv X pins σ H s) (hfp:∀b∈fp,adY X pins H b/\b<s.heap.objs.size) (hC:C=s.heap.objs.size) (ho:s4.os=s.os) (hg:s4.gens=s.gens) (hkeep:∀b o,s.heap.get? b=some o->s4.heap.get? b=some o) (hn:s4.heap.Ns C m4):
  Inv (aaN X (x::N') scope cl C fp pins s H) [] (none::aaW js σ) H s4:=by
 have hne:∀b o,s.heap.get? b=some o->b≠C:=fun b o e=>by rw[hC];exact aV (aQ e)
 refine⟨⟨I.ok.mod,hcl.kind,I.ok.glob,I.ok.blt,Nat.le_of_eq hC.symm,fun y z c h1 h2=>I.ok.inj y z c (hcl.sub y c h1) (hcl.sub z c h2),fun y hy=>hcl.has y (anW (fun z=>hcl.nocell _ (PySem.mem_of_lookup z) rfl) (by rw[←ad1];exact hy)),fun y c h _=>(nomatch h),I.ok.hd,I.ok.frames,.inl rfl,fun b hb=>⟨?_,fun y c e=>(hfp b hb).1.2.2.2.2.1 y c (hcl.sub y c e)⟩,
  I.bs,bJ I.ok.bsz I.sz,fun b o e hb=>?_,fun b hb hz=>?_,I.stack,I.stkFree⟩,ho,by rw[hg];exact I.bare,Un.kept hkeep,⟨m4,hn,fun i y v h1 h2 h3=>?_⟩,fun y c e=>?_,?_,fun y c e=>I.freeC y c (hcl.sub y c e),fun p hp=>?_,I.hok.kept hkeep,?_⟩
 ·rw[hC];exact aV (hfp b hb).2
 ·rcases (hfp b hb).1.2.2.2.1 with z | z
  ·exact I.ok.noex b o e z
  ·exact absurd (aX (aQ e) (bJ I.ok.bsz z)) (cC _)
 ·rcases aR.mp (I.stkSub b hz) with z | z
  ·exact (hfp b hb).1.2.1 z
  ·exact (hfp b hb).1.2.2.1 z
 ·match i,h1,h2 with
  |0,_,h2=>exact nomatch h2
  |i+1,h1,h2=>
   have h1:N'[i]? =some y:=h1
   have h2:(aaW js σ)[i]? =some (some v):=h2
   have hy:y∈N':=bH h1
   have q:(js.map (fun j=>X.N[j]?))[i]? =some (some y):=by rw[hN,aY,h1];rfl
   rw[aY] at q
   cases ej:js[i]? with
   |none=>rw[ej] at q;cases q
   |some j=>
    rw[ej] at q
    have q:X.N[j]? =some y:=a8 q
    unfold aaW at h2
    rw[aY,ej] at h2
    have h2:(σ[j]?).getD none=some v:=a8 h2
    have h2:σ[j]? =some (some v):=by
     cases e:σ[j]? with
     |none=>rw[e] at h2;cases h2
     |some o=>rw[e] at h2;exact congrArg some h2
    have kk:=bX.mp hk y hy
    have kk:X.env.kindOf y=some .cell∨X.env.kindOf y=some .free:=by simpa using kk
    have ff:=bX.mp hf y hy
    have ff:scope.names.lookup y=some .free:=by simpa using ff
    obtain⟨m,_,hl⟩:=I.loc
    obtain⟨u,r,l⟩:=hl j y v q h2 (by rcases kk with z | z;exact .inr (.inl z);exact .inr (.inr z))
    refine⟨u,r,.inr ⟨ahI ff,?_⟩⟩
    obtain⟨c,hc⟩:=hcl.has y ff
    rcases l with ⟨z,_⟩ | ⟨_,c',e',cell⟩
    ·rcases kk with k | k<;>(rw[k] at z;cases z)
    ·rw[hcl.sub y c hc] at e'
     cases e'
     exact⟨c,hc,cell.keeps hkeep⟩
 ·obtain⟨v,q⟩:=I.cell y c (hcl.sub y c e)
  exact⟨v,q.keeps hkeep⟩
 ·show H C=none
  rw[hC]
  exact I.hok.fresh (aO _)
 ·have hp:p∈X.pn++pins:=by
   have hp:p∈(X.pn++pins)++[]:=hp
   rwa [bS] at hp
  obtain⟨e,n,ne,nf,d⟩:=I.pin p hp
  refine⟨hkeep _ _ e,n,hne _ _ e,fun z=>?_,d⟩
  rcases aR.mp (I.stkSub p.1 z) with z | z
  ·exact ne z
  ·exact nf z
 ·show (aaW js σ).length+1=N'.length+1
  have q:=congrArg List.length hN
  rw[aM,aM] at q
  unfold aaW
  rw[aM,q]
end
theorem alO{prog:Program}{w:World}{A:Around}{R:Result->Shared->Prop}{s:Shared}{elt tg iter:Expr}{ifs:List Expr}{scope:Scope}{pos:Pos}{it acc:Value}{env:Env}{EN:Value->Shared->Prop}
  (hEN:EN=notedBy (model prog w) A env fun e s'=>R (.error e) s') (B:Nat->Shared->Prop)
  (turn:∀n s,B n s->wpAny (model prog w) A (pyNext it) (fun r s₁=>match r with
   |none=>R (.ok .next) s₁
   |some v=>wpAny (model prog w) A (letOwnedTupleGo tg it v) (fun _ s₂=>wpAny (model prog w) A (assign tg env v) (fun _ s₃=>
     wpAny (model prog w) A (awC ifs env) (fun ok s₄=>
      if ok=true then wpAny (model prog w) A (eval elt env) (fun z s₅=>wpAny (model prog w) A (call (.builtin "list.append") [acc,z]) (fun _ s₆=>∃m,m<n/\B m s₆) EN s₅) EN s₄
      else ∃m,m<n/\B m s₄) EN s₃) EN s₂) EN s₁) EN s) (n:Nat) (h:B n s):
  codeAny (model prog w) A (.compLoop (.ListComp elt [⟨tg,iter,ifs,0⟩] scope pos) 0 it acc env) R s:=by
 subst hEN
 refine codeAny_loop rfl B (fun n s hI=>?_) n h
 refine wpAny_noted (m:=compTurn (.ListComp elt [⟨tg,iter,ifs,0⟩] scope pos) 0 it acc env) ?_
 rw[compTurn_list]
 refine dN (wpAny_standAt (dN (dO (turn n s hI) (fun r s₁ h₁=>?_) fun _ _ z=>z)))
 cases r with
 |none=>exact eC h₁
 |some v=>
  refine dN (dO h₁ (fun _ s₂ h₂=>?_) fun _ _ z=>z)
  refine dN (dO h₂ (fun _ s₃ h₃=>?_) fun _ _ z=>z)
  refine dN (dO h₃ (fun ok s₄ h₄=>?_) fun _ _ z=>z)
  cases ok with
  |false=>exact eC ⟨rfl,h₄⟩
  |true=>
   refine dN (dN (dO h₄ (fun z s₅ h₅=>?_) fun _ _ q=>q))
   exact dN (dO h₅ (fun _ s₆ h₆=>eC (eC ⟨rfl,h₆⟩)) fun _ _ q=>q)
section
variable{X:Cx}{elt iter:Expr}{x:Str}{px pos:Pos}{ifs:List Expr}{scope:Scope}{cl:List (Str×Addr)}{N':List Str}{js:List Nat}{tt:TT}{te:TE}
theorem aAB{pins:List (Addr×Obj)}{σ σ':St}{H H':Hp}{s s':Shared}{fp:List Addr}{C:Addr}(I:Inv X pins σ H s)(hfp:∀b∈fp,adY X pins H b)(J:Inv (aaN X (x::N') scope cl C fp pins s H) [] σ' H' s'):Inv X pins σ H' s':=
 I.call' (ch:=fp) J.os J.base J.hok J.bare fun b hb=>⟨(hfp b hb).2.2.2.1,(hfp b hb).2.1,(hfp b hb).2.2.2.2.1,(hfp b hb).2.2.2.2.2⟩
theorem al6{pins:List (Addr×Obj)}{σ:St}{H:Hp}{s:Shared}{Q:VK}{RR:Value->Addr->Result->Shared->Prop}{J:It}{fp:List Addr}{it:Addr}{tn:Nat->Heap->Prop}
  (hcl:Clos X scope cl) (hx:scope.names.lookup x=some .local) (hnd:(x::N').Nodup) (hN:js.map (fun j=>X.N[j]?)=N'.map some)
  (hk:N'.all (fun y=>(X.env.kindOf y==some .cell)||(X.env.kindOf y==some .free))=true) (hf:N'.all (fun y=>scope.names.lookup y==some .free)=true) (hc:X.calm=true)
  (ht:∀(C:Addr) (ex:List Addr) (pins:List (Addr×Obj)) (s:Shared) (H:Hp),PF (aaN X (x::N') scope cl C ex pins s H) ifs tt)
  (he:∀(C:Addr) (ex:List Addr) (pins:List (Addr×Obj)) (s:Shared) (H:Hp),PE (aaN X (x::N') scope cl C ex pins s H) elt te)
  (I:Inv X pins σ H s) (T:Turn X.prog X.w X.K (.Name x px) J fp it tn) (st:tn 0 s.heap) (hfp:∀b∈fp,adY X pins H b)
  (q:∀D,H D=none->∃W:Nat->Nat->Hp->Prop,(∃m,W 0 m (upd H D (.lst [])))/\∀i m H2,W i m H2->
   (J.stop i H2/\Q (.ref D) H2)∨(J.go i H2/\∀v H3,J.yld i H2 v H3->tt (some v::aaW js σ) H3 fun b H4=>if b=true then
    te (some v::aaW js σ) H4 fun y H5=>∃ys,H5 D=some (.lst ys)/\ys.length<sizeLine/\∃m',m'<m/\W (i+1) m' (upd H5 D (.lst (ys++[y])))
    else ∃m',m'<m/\W (i+1) m' H4))
  (hRR:∀(D C:Addr) (s':Shared) (H':Hp) (m:Str->Option Value),Inv X pins σ H' s'->H' C=none->C≠X.env.locals->X.s₀.heap.objs.size<=C->(∀y c,X.env.cells.lookup y=some c->c≠C)->(∀p∈X.pn++pins,p.1≠C)->s'.heap.Ns C m->Q (.ref D) H'->RR (.ref D) C (.ok .next) s'):
  wpAny (model X.prog X.w) X.A (newList []) (fun acc s₃=>wpAny (model X.prog X.w) X.A (newFunctionEnv scope X.env.globals cl [] X.env.qual none .none (some X.env)) (fun cenv s₄=>
   codeAny (model X.prog X.w) X.A (.compStart (.ListComp elt [⟨.Name x px,iter,ifs,0⟩] scope pos) 0 (.ref it) acc {cenv with scope:=relabel scope X.env}) (RR acc cenv.locals) s₄) X.xe s₃) X.xe s:=by
 refine dM ?_
 have hD:H s.heap.objs.size=none:=I.hok.fresh (aO _)
 have I3:Inv X pins σ (upd H s.heap.objs.size (.lst [])) {s with heap:=s.heap.push {cls:=.type "list",dict:=none,data:=.seq ([]:List Value).toArray} }:=I.lnew (its:=[]) (t':=s.toks) .nil (aZ _)
 have hfp3:∀b∈fp,adY X pins (upd H s.heap.objs.size (.lst [])) b/\b<(s.heap.push {cls:=.type "list",dict:=none,data:=.seq ([]:List Value).toArray}).objs.size:=fun b hb=>by
  obtain⟨o,ho,_⟩:=T.obj 0 _ st b hb
  have hlt:=aQ ho
  obtain⟨f0,f1⟩:=hfp b hb
  exact⟨⟨by rw[aaH (aV hlt)];exact f0,f1⟩,by rw[cG];exact cH hlt⟩
 have st3:tn 0 (s.heap.push {cls:=.type "list",dict:=none,data:=.seq ([]:List Value).toArray}):=T.keep _ _ _ st fun b _ o e=>aS _ e
 obtain⟨W,⟨m0,w0⟩,turn⟩:=q s.heap.objs.size hD
 generalize hs3:({s with heap:=s.heap.push {cls:=.type "list",dict:=none,data:=.seq ([]:List Value).toArray} }:Shared)=s3 at I3 ⊢
 have hh3:s.heap.push {cls:=.type "list",dict:=none,data:=.seq ([]:List Value).toArray}=s3.heap:=by rw[←hs3]
 rw[hh3] at hfp3 st3
 generalize s.heap.objs.size=D at I3 hfp3 w0 turn hD ⊢
 generalize upd H D (.lst [])=H3 at I3 hfp3 w0
 refine wpAny_newFunctionEnv hcl.nocell (by intro y hy;simp at hy) (fun h₁ hns₁ hsb₁=>?_) hcl.kind
 have hkeep:∀b o,s3.heap.get? b=some o->h₁.get? b=some o:=fun b o e=>hsb₁.extBut b o (aV (aQ e)) (aS _ e)
 have J4:Inv (aaN X (x::N') scope cl s3.heap.objs.size fp pins s3 H3) [] (none::aaW js σ) H3 {s3 with heap:=h₁,toks:=s3.toks+([]:List (Str×Value)).length}:=
  auO hcl hN hk hf I3 hfp3 rfl rfl rfl hkeep hns₁
 have st4:tn 0 h₁:=T.keep _ _ _ st3 fun b _ o e=>hkeep b o e
 have cell':∀{s':Shared} {σ':St} {H':Hp},Inv (aaN X (x::N') scope cl s3.heap.objs.size fp pins s3 H3) [] σ' H' s'->Q (.ref D) H'->RR (.ref D) s3.heap.objs.size (.ok .next) s':=fun {s' σ' H'} J hq=>by
  obtain⟨m,hn,_⟩:=J.loc
  refine hRR D _ s' H' m (aAB I3 (fun b hb=>(hfp3 b hb).1) J) J.free (Nat.ne_of_gt I3.lt) I3.sz (fun y c e z=>?_) (fun p hp z=>?_) hn hq
  ·obtain⟨v,k⟩:=I3.cell y c e
   exact absurd k.lt (by rw[z];exact cC _)
  ·exact absurd (aQ (I3.pin p hp).1) (by rw[z];exact cC _)
 have fpX:∀{H':Hp},(∀b∈fp,H' b=none)->∀b∈fp,adY (aaN X (x::N') scope cl s3.heap.objs.size fp pins s3 H3) [] H' b:=fun {H'} hn b hb=>by
  obtain⟨⟨f0,f1,f2,f3,f4,f5⟩,flt⟩:=hfp3 b hb
  refine⟨hn b hb,aV flt,fun z=>?_,.inl hb,fun y c e=>f4 y c (hcl.sub y c e),fun p hp=>?_⟩
  ·rcases aR.mp (I3.stkSub b z) with z | z
   ·exact f1 z
   ·exact f2 z
  ·have hp:p∈(X.pn++pins)++[]:=hp
   rw[bS] at hp
   exact f5 p hp
 have loop:∀s₄:Shared,s₄={s3 with heap:=h₁,toks:=s3.toks+([]:List (Str×Value)).length}->
   codeAny (model X.prog X.w) X.A (.compLoop (.ListComp elt [⟨.Name x px,iter,ifs,0⟩] scope pos) 0 (.ref it) (.ref D) (compEnvC scope cl s3.heap.objs.size X.env)) (RR (.ref D) s3.heap.objs.size) s₄:=by
  rintro s₄ rfl
  refine alO rfl (fun n s'=>∃i σ0 H',Inv (aaN X (x::N') scope cl s3.heap.objs.size fp pins s3 H3) [] (σ0::aaW js σ) H' s'/\tn i s'.heap/\(∀b∈fp,H' b=none)/\W i n H') ?_ m0 ⟨0,none,H3,J4,st4,fun b hb=>(hfp3 b hb).1.1,w0⟩
  rintro n s5 ⟨i,σ0,H5,J5,st5,fr5,w5⟩
  rcases turn i n H5 w5 with ⟨stop,qn⟩ | ⟨go,step⟩
  ·refine dO (T.done (aaN X (x::N') scope cl s3.heap.objs.size fp pins s3 H3) rfl rfl rfl hc i [] s5 _ H5 (fun _ _=>False) J5 (fpX fr5) st5 stop) (fun r s6 ⟨hr,J6⟩=>?_) fun _ _ z=>z.elim
   subst hr
   exact cell' J6 qn
  ·refine dO (T.item (aaN X (x::N') scope cl s3.heap.objs.size fp pins s3 H3) rfl rfl rfl hc i [] s5 _ H5 (fun _ _=>False) J5 (fpX fr5) st5 go) (fun r s6 ⟨u,hr,h6⟩=>?_) fun _ _ z=>z.elim
   subst hr
   refine dO h6 (fun _ s6' h6'=>?_) fun _ _ z=>z.elim
   obtain⟨v,H6,J6,r6,y6,st6,fr6⟩:=h6'
   clear h6
   have J6':=J6.pinned (fpX fr6) (T.obj _ _ st6)
   show wpAny _ _ (assign (.Name x px) _ u) _ _ _
   refine wpAny_assign_Name (amJ (i:=0) J6' hnd rfl (.inl (lookup_relabel_local hx)) r6 (fun s7 J7=>?_) (.inr (lookup_relabel_local hx)))
   have J7:Inv (aaN X (x::N') scope cl s3.heap.objs.size fp pins s3 H3) ([]++ag1 fp s6'.heap) (some v::aaW js σ) H6 s7:=J7
   have again:∀{σ8:St} {H8:Hp} {s8:Shared},Inv (aaN X (x::N') scope cl s3.heap.objs.size fp pins s3 H3) ([]++ag1 fp s6'.heap) σ8 H8 s8->tn (i+1) s8.heap/\∀b∈fp,H8 b=none:=fun {σ8 H8 s8} J8=>by
    refine⟨T.keep _ _ _ st6 fun b hb o e=>(J8.pin (b,o) (bV _ (bV _ (ab7 hb e)))).1,fun b hb=>?_⟩
    obtain⟨o,e,d⟩:=T.obj _ _ st6 b hb
    exact (J8.pin (b,o) (bV _ (bV _ (ab7 hb e)))).2.1
   refine dO (ht _ _ _ _ _ _ s7 _ H6 _ J7 (step v H6 y6)) (fun ok s8 ⟨H8,J8,q8⟩=>?_) fun _ _ z=>z.elim
   cases ok with
   |false=>
    obtain⟨m',hm,w8⟩:=(show ∃m',m'<n/\W (i+1) m' H8 from q8)
    obtain⟨a1,a2⟩:=again J8
    exact⟨m',hm,i+1,some v,H8,J8.unpinned,a1,a2,w8⟩
   |true=>
    refine dO (he _ _ _ _ _ _ s8 _ H8 _ J8 q8) (fun y s9 ⟨z,H9,J9,r9,ys,hys,hlen,m',hm,w9⟩=>?_) fun _ _ z=>z.elim
    refine dO (aiM (X:=aaN X (x::N') scope cl s3.heap.objs.size fp pins s3 H3) _ s9 _ H9 (.ref D) [z] (.ref D) [y] (fun _ H10=>H10=upd H9 D (.lst (ys++[z]))) J9 rfl (.cons r9 .nil) ⟨D,ys,z,rfl,rfl,hys,hlen,rfl⟩) (fun _ s10 ⟨_,H10,J10,_,e10⟩=>?_) fun _ _ z=>z.elim
    subst e10
    obtain⟨a1,a2⟩:=again J10
    exact⟨m',hm,i+1,some v,_,J10.unpinned,a1,a2,w9⟩
 exact codeAny_compStart_list (loop _ rfl) (T.self _ 0 _ _ _ st4 (loop _ rfl))
theorem aCW{wi:TI}(hcl:Clos X scope cl)(hx:scope.names.lookup x=some .local)(hnd:(x::N').Nodup)(hN:js.map (fun j=>X.N[j]?)=N'.map some)
  (hk:N'.all (fun y=>(X.env.kindOf y==some .cell)||(X.env.kindOf y==some .free))=true) (hf:N'.all (fun y=>scope.names.lookup y==some .free)=true) (hc:X.calm=true)
  (hi:PI X (.Name x px) iter wi)
  (ht:∀(C:Addr) (ex:List Addr) (pins:List (Addr×Obj)) (s:Shared) (H:Hp),PF (aaN X (x::N') scope cl C ex pins s H) ifs tt)
  (he:∀(C:Addr) (ex:List Addr) (pins:List (Addr×Obj)) (s:Shared) (H:Hp),PE (aaN X (x::N') scope cl C ex pins s H) elt te)
  (hs:∀x,foldedSetIterable iter X.env x=pure x:=by intro _;rfl):
  PE X (.ListComp elt [⟨.Name x px,iter,ifs,0⟩] scope pos) (azQ wi js tt te):=by
 intro pins s σ H Q I h
 rw[eval_ListComp]
 refine wpAny_comprehension_free (use:=none) rfl hs hcl.is hcl.kind hcl.names (thn (hi pins s σ H _ I h) fun xv s₁ h₁=>thn h₁ fun itv s₂ h₂=>?_)
 obtain⟨it,fp,tn,J,H2,rfl,I2,T,st,hfp,q⟩:=h₂
 refine al6 (RR:=fun acc C=>compPost (model X.prog X.w) X.A X.xe none (EP X pins σ Q) acc C) hcl hx hnd hN hk hf hc ht he I2 T st hfp q ?_
 intro D C s' H' m I' hC0 hCL hCs hCc hCp hn hq
 refine⟨m,hn,fun h' sb=>⟨.ref D,H',?_,rfl,hq⟩⟩
 exact I'.turned (t':=s'.toks) (fun b o hb e=>(sb.2 b hb).trans e) hC0 hCL (.inr hCs) hCc hCp
end
theorem agX(env:Env):∀(names:List (Str×NameKind)) (acc:List (Str×Addr)),names.all (fun y=>y.2 != .free||(env.cells.lookup y.1).isSome)=true->
  ∃cl:List (Str×Addr),(forIn (m:=Sem) names acc fun x r=>(do
   let (name,kind):=x
   if kind== .free then do let c ←cellOf env name;pure (ForInStep.yield ((name,c)::r)) else pure (ForInStep.yield r)))=(pure cl:Sem _)/\
   (∀y c,cl.lookup y=some c->env.cells.lookup y=some c∨acc.lookup y=some c)/\(∀y,(∃c,acc.lookup y=some c)->∃c,cl.lookup y=some c)/\(∀y,(y,NameKind.free)∈names->∃c,cl.lookup y=some c)
 |[],acc,_=>⟨acc,rfl,fun _ _ h=>.inr h,fun _ h=>h,fun _ h=>nomatch h⟩
 |(n,k)::r,acc,h=>by
  rw[List.all_cons,bE] at h
  by_cases hk:k=.free
  ·subst hk
   have h1:(env.cells.lookup n).isSome=true:=by simpa using h.1
   obtain⟨c,hc⟩:=c6.mp h1
   obtain⟨cl,e,p1,p2,p3⟩:=agX env r ((n,c)::acc) h.2
   refine⟨cl,?_,fun y c' hy=>?_,fun y hy=>?_,fun y hy=>?_⟩
   ·rw[←e]
    have q:cellOf env n=(pure c:Sem Addr):=by unfold cellOf;rw[hc]
    rw[List.forIn_cons]
    dsimp only
    rw[if_pos (show (NameKind.free==NameKind.free)=true from rfl),q]
    rfl
   ·rcases p1 y c' hy with z | z
    ·exact .inl z
    ·rw[c9] at z
     cases hyn:y==n with
     |true=>
      rw[hyn] at z
      have e1:y=n:=by simpa using hyn
      have e2:c=c':=by simpa using z
      rw[e1,←e2]
      exact .inl hc
     |false=>
      rw[hyn] at z
      exact .inr z
   ·refine p2 y ?_
    rw[c9]
    cases hyn:y==n with
    |true=>exact⟨c,rfl⟩
    |false=>exact hy
   ·rcases aR.mp hy with z | z
    ·refine p2 y ⟨c,?_⟩
     have e1:y=n:=(Prod.mk.inj z).1
     rw[e1,c9]
     simp
    ·exact p3 y z
  ·obtain⟨cl,e,p1,p2,p3⟩:=agX env r acc h.2
   have hk':(k==NameKind.free)=false:=by simpa using hk
   refine⟨cl,?_,p1,p2,fun y hy=>?_⟩
   ·rw[←e]
    rw[List.forIn_cons]
    dsimp only
    rw[if_neg (by rw[hk'];exact aW)]
    rfl
   ·rcases aR.mp hy with z | z
    ·exact absurd (Prod.mk.inj z).2.symm hk
    ·exact p3 y z
theorem ao8{X:Cx}{scope:Scope}(h:scope.names.all (fun y=>y.2 != .free||(X.env.cells.lookup y.1).isSome)=true)(h2:scope.names.all (fun y=>y.2 != .cell)=true)(h3:scope.kind=.function)
  (h4:scope.names.all (fun y=>y.2 != .local||scope.names.lookup y.1==some .local)=true):∃cl,Clos X scope cl:=by
 obtain⟨cl,e,p1,p2,p3⟩:=agX X.env scope.names [] h
 refine⟨cl,?_,fun y c hy=>?_,fun y hy=>p3 y (PySem.mem_of_lookup hy),fun y hy=>by simpa using bX.mp h2 y hy,h3,fun y hy hl=>?_⟩
 ·unfold closureFor
  exact Eq.trans (congrArg (fun t:Sem (List (Str×Addr))=>t >>=fun r=>(pure r:Sem (List (Str×Addr)))) e) rfl
 ·rcases p1 y c hy with z | z
  ·exact z
  ·simp at z
 ·have q:=bX.mp h4 y hy
  simpa [hl] using q
section
variable{js:List Nat}{σ:St}{tt:TT}{te:TE}{Q:VK}{H1:Hp}
theorem aa6{lo:Int}{n:Nat}(R:Nat->List V->Prop)(hn:n<=sizeLine)(h0:R 0 [])
  (hs:∀(i:Nat) (l:List V) (D:Addr) (H2:Hp) (E:V->Hp->Prop) (F:Hp->Prop),i<n->R i l->H1 D=none->Same H1 H2->H2 D=some (.lst l)->(∀y H5,Same H2 H5->R (i+1) (l++[y])->E y H5)->(∀H4,Same H2 H4->R (i+1) l->F H4)->
   tt (some (.int (lo+i))::aaW js σ) H2 fun b H4=>if b=true then te (some (.int (lo+i))::aaW js σ) H4 E else F H4)
  (hd:∀(D:Addr) (H2:Hp) (l:List V),R n l->H1 D=none->Same H1 H2->H2 D=some (.lst l)->Q (.ref D) H2):asX (Itr lo n) js σ tt te Q H1:=by
 intro D hD
 refine⟨fun i m H2=>m=n-i/\i<=n/\Same H1 H2/\∃l,H2 D=some (.lst l)/\l.length<=i/\R i l,⟨n,by simp,aZ _,aaB hD _,[],aaA,aO _,h0⟩,?_⟩
 rintro i m H2 ⟨rfl,hi,s2,l,h2,hll,hR⟩
 by_cases hlt:i<n
 ·refine .inr ⟨hlt,fun v H3 y=>?_⟩
  obtain⟨e,ev⟩:=y
  subst e ev
  refine hs i l D _ _ _ hlt hR hD s2 h2 (fun z H5 s5 r5=>?_) (fun H4 s4 r4=>?_)
  ·refine⟨l,s5 _ _ h2,dA hll (aX hlt hn),n-(i+1),by omega,rfl,hlt,fun b o hb=>?_,l++[z],aaA,by rw[aP,bL];omega,r5⟩
   rw[aaH (aaL hb hD)]
   exact s5 _ _ (s2 _ _ hb)
  ·exact⟨n-(i+1),by omega,rfl,hlt,s2.trans s4,l,s4 _ _ h2,by omega,r4⟩
 ·have e:i=n:=by omega
  subst e
  exact .inl ⟨aO _,hd D H2 l hR hD s2 h2⟩
end
structure E(X:Cx)(e:Expr)(t:TE):Prop where
 h:PE X e t
structure T(X:Cx)(e:Expr)(t:TT):Prop where
 h:PT X e t
structure TW(X:Cx)(e:Expr)(t:TT):Prop where
 h:PW X e t
structure As(X:Cx)(es:List Expr)(t:TA):Prop where
 h:PA X es t
structure S(X:Cx)(st:Stmt)(t:TS):Prop where
 h:PS X st t
structure Ss(X:Cx)(sts:List Stmt)(t:TS):Prop where
 h:PSs X sts t
structure Il(X:Cx)(tg iter:Expr)(wi:TI):Prop where
 h:PI X tg iter wi
structure Gt(X:Cx)(tg:Expr)(t:TG):Prop where
 h:PG X tg t
structure Gts(X:Cx)(ts:List Expr)(t:TGs):Prop where
 h:PGs X ts t
structure Fs(X:Cx)(ifs:List Expr)(t:TT):Prop where
 h:PF X ifs t
structure Op2(X:Cx)(f:Value->Value->Sem Value)(r:R2):Prop where
 h:OpR X f r
structure Op1(X:Cx)(f:Value->Sem Value)(r:V->Hp->VK->Prop):Prop where
 h:UnR X f r
structure Cl1(X:Cx)(f:Value)(r:List V->Hp->VK->Prop):Prop where
 h:ad6 X f r
structure Ixs(X:Cx)(r:R2):Prop where
 h:IxR X r
section
variable{X:Cx}{a b c e:Expr}{pos p:Pos}{ta tb tc te:TE}{t u:TT}{rest es:List Expr}{tA:TA}{op op':CmpOp}{r r':R2}{x:Str}
theorem v_(i:Nat)(hN:X.N[i]? =some x:=by rfl)(hv:Vis X.env.scope x:=by first | exact Or.inl rfl | exact Or.inr (Or.inl rfl) | exact Or.inr (Or.inr rfl))(hd:(x==("__debug__":Str))=false:=by decide)(hcd:(x==("__classdict__":Str))=false:=by decide):
  E X (.Name x pos) (aOK i):=⟨aFY hN hv hd hcd⟩
theorem eI{i j}:E X (.Constant (.int i) j pos) (tC (.int i)):=⟨ayR⟩
theorem eB{k j}:E X (.Constant (.bool k) j pos) (tC (.bl k)):=⟨aPF⟩
theorem eN{j}:E X (.Constant .none j pos) (tC .non):=⟨aEA⟩
theorem eS{z j}:E X (.Constant (.str z) j pos) (tC (.str z)):=⟨au6⟩
theorem eGl{v:V}{w':Value}(hm:X.mg x=some w')(q:RelV v w')(hg:Gl X x:=by rfl)(hd:(x==("__debug__":Str))=false:=by decide):E X (.Name x pos) (tC v):=⟨aBB hg hm q hd⟩
theorem eTy{n:String}(hm:X.mg x=none)(hv:bootBuiltins x=some (.type n))(hg:Gl X x:=by rfl)(hn:x≠"__name__":=by decide)(hd:(x==("__debug__":Str))=false:=by decide):E X (.Name x pos) (tC (.ty n)):=⟨aCU hg hm hv rfl hn hd⟩
theorem eOp{o:Operator}(ho:Op2 X (binaryOp o) r)(ha:E X a ta)(hb:E X b tb):E X (.BinOp a o b pos) (tOp r ta tb):=⟨aJG ho.h ha.h hb.h⟩
theorem eUn{o:UnaryOp}{r1:V->Hp->VK->Prop}(ho:Op1 X (unaryOp o) r1)(ha:E X a ta):E X (.UnaryOp o a pos) (tUn r1 ta):=⟨aN4 ho.h ha.h⟩
theorem ad2(ho:Op2 X (compareOp op) r)(ha:E X a ta)(hb:E X b tb)(hm:behindInMarks op b=false:=by first | exact azN _ | rfl):E X (.Compare a [op] [b] pos) (tOp r ta tb):=⟨aCD ho.h ha.h hb.h hm⟩
theorem eCh(ho:Op2 X (compareOp op) r)(ho':Op2 X (compareOp op') r')(ha:E X a ta)(hb:E X b tb)(hc:E X c tc)(hm:lastMarks [op,op'] [b,c]=false:=by with_unfolding_all rfl):E X (.Compare a [op,op'] [b,c] pos) (aqN r r' ta tb tc):=⟨aA3 ho.h ho'.h ha.h hb.h hc.h hm⟩
theorem tCh(ho:Op2 X (compareOp op) r)(ho':Op2 X (compareOp op') r')(ha:E X a ta)(hb:E X b tb)(hc:E X c tc)(hm:lastMarks [op,op'] [b,c]=false:=by with_unfolding_all rfl):T X (.Compare a [op,op'] [b,c] pos) (awZ (aqN r r' ta tb tc)):=⟨aAQ ho.h ho'.h ha.h hb.h hc.h hm⟩
theorem anD{o}(ha:E X a ta):E X (.BoolOp o [a] pos) ta:=⟨aFP ha.h⟩
theorem axR(ha:E X a ta)(hb:E X (.BoolOp .And (b::rest) pos) tb):E X (.BoolOp .And (a::b::rest) pos) (aDN ta tb):=⟨aD3 ha.h hb.h⟩
theorem eOr(ha:E X a ta)(hb:E X (.BoolOp .Or (b::rest) pos) tb):E X (.BoolOp .Or (a::b::rest) pos) (aJN ta tb):=⟨aO3 ha.h hb.h⟩
theorem eNot(ha:E X a ta):E X (.UnaryOp .Not a pos) (aC7 ta):=⟨aEQ ha.h⟩
theorem eIf(hc:T X c t)(ha:E X a ta)(hb:E X b tb):E X (.IfExp c a b pos) (tIf t ta tb):=⟨aAM hc.h ha.h hb.h⟩
theorem tCm(ho:Op2 X (compareOp op) r)(ha:E X a ta)(hb:E X b tb)(hm:behindInMarks op b=false:=by first | exact azN _ | rfl):T X (.Compare a [op] [b] pos) (awZ (tOp r ta tb)):=⟨aCM ho.h ha.h hb.h hm⟩
theorem tNo(ha:T X a t):T X (.UnaryOp .Not a pos) (aPL t):=⟨aEL ha.h⟩
theorem tVa(ha:E X e te)(he:∀whole,isTrue e X.env whole=(do let v ←whole;standAt e.pos;holding [v] (truthy v)):=by intro _;rfl):T X e (L2.tB te):=⟨aE1 ha.h he⟩
theorem ajE(ha:T X a t):TW X (.BoolOp .And [a] pos) t:=⟨aBC ha.h⟩
theorem alX(ha:T X a t):TW X (.BoolOp .Or [a] pos) t:=⟨aFF ha.h⟩
theorem aqU(ha:T X a t)(hb:TW X (.BoolOp .And (b::rest) pos) u):TW X (.BoolOp .And (a::b::rest) pos) (aJ3 t u):=⟨aFN ha.h hb.h⟩
theorem wOr(ha:T X a t)(hb:TW X (.BoolOp .Or (b::rest) pos) u):TW X (.BoolOp .Or (a::b::rest) pos) (tOr t u):=⟨aNX ha.h hb.h⟩
theorem tW(ha:TW X e t):T X e t:=⟨ha.h.pt⟩
theorem aN:As X [] aiE:=⟨afF⟩
theorem aC(ha:E X e te)(hr:As X es tA)(hs:starEach (e::es) X.env=(false,eval e X.env)::starEach es X.env:=by rfl):As X (e::es) (ajO te tA):=⟨adC ha.h hr.h hs⟩
theorem azD(is:List Int)(h:es.map asA=is.map some:=by rfl):As X es (aDB is):=⟨awU is h⟩
theorem abR(ha:As X es tA):E X (.List es pos) (aGH tA):=⟨aEF ha.h⟩
theorem aa5{k}(ha:As X es tA):E X (.Tuple es k pos) (aK7 tA):=⟨aFK ha.h⟩
theorem eIx(hr:Ixs X r)(ha:E X a ta)(hb:E X b tb)(hs:av5 b:=by intro _ _;rfl):E X (.Subscript a b pos) (tOp r ta tb):=⟨aOQ hr.h ha.h hb.h hs⟩
theorem eD{k k':Nat}{ps:List Str}{sp:Sp}(D:Df X.prog X.w X.K X.mg X.base x k ps sp)(hr:Room k' X.A)(ha:As X (e::es) tA)(hk:k<=k':=by decide)(hg:Gl X x:=by rfl)
  (hdb:(x==("__debug__":Str))=false:=by decide) (he:starEach (e::es) X.env=(false,eval e X.env)::starEach es X.env:=by rfl) (hpl:(backTo pos (starEach es X.env)).any (·.1)=false:=by rfl):
  E X (.Call (.Name x p) (e::es) [] pos) (awY sp [] E0 tA):=⟨azM D hr ha.h hk hg hdb he hpl⟩
theorem eCB{id:String}{rc:List V->Hp->VK->Prop}(hc:Cl1 X (.builtin id) rc)(hm:X.mg x=none)(hv:bootBuiltins x=some (.builtin id))(ha:As X (e::es) tA)(hg:Gl X x:=by rfl)(hn:x≠"__name__":=by decide)(hdb:(x==("__debug__":Str))=false:=by decide)
  (he:starEach (e::es) X.env=(false,eval e X.env)::starEach es X.env:=by rfl) (hpl:(backTo pos (starEach es X.env)).any (·.1)=false:=by rfl):E X (.Call (.Name x p) (e::es) [] pos) (tCB rc tA):=⟨ay5 hc.h hg hm hv ha.h hn hdb he hpl⟩
theorem eCT{n:String}{rc:List V->Hp->VK->Prop}(hc:Cl1 X (.type n) rc)(hm:X.mg x=none)(hv:bootBuiltins x=some (.type n))(ha:As X (e::es) tA)(hg:Gl X x:=by rfl)(hn:x≠"__name__":=by decide)(hdb:(x==("__debug__":Str))=false:=by decide)
  (he:starEach (e::es) X.env=(false,eval e X.env)::starEach es X.env:=by rfl) (hpl:(backTo pos (starEach es X.env)).any (·.1)=false:=by rfl):E X (.Call (.Name x p) (e::es) [] pos) (tCB rc tA):=⟨ax6 hc.h hg hm hv ha.h hn hdb he hpl⟩
end
section
variable{X:Cx}
theorem aaM:Op2 X (binaryOp .Add) (rI0 fun i j=>.int (i+j)):=⟨aES⟩
theorem abP:Op2 X (binaryOp .Sub) (rI0 fun i j=>.int (i-j)):=⟨aFR⟩
theorem adR:Op2 X (binaryOp .Mult) (rI CMul fun i j=>.int (i*j)):=⟨aFM⟩
theorem aeQ:Op2 X (binaryOp .FloorDiv) (rI aCL fun i j=>.int (i / j)):=⟨aCV⟩
theorem aa7:Op2 X (binaryOp .Mod) (rI (fun _ j=>0<j) fun i j=>.int (i%j)):=⟨aE6⟩
theorem axT:Op2 X (binaryOp .Pow) (rI aBG fun i j=>.int (i^j.toNat)):=⟨aE9⟩
theorem af4:Op2 X (binaryOp .LShift) (rI aBG fun i j=>.int (i*2^j.toNat)):=⟨aEK⟩
theorem alD:Op2 X (binaryOp .RShift) (rI (fun _ j=>0<=j) fun i j=>.int (i / 2^j.toNat)):=⟨aEP⟩
theorem akF:Op2 X (binaryOp .BitAnd) (rI0 fun i j=>.int (Builtin.bitAnd i j)):=⟨aD8⟩
theorem oOr:Op2 X (binaryOp .BitOr) (rI0 fun i j=>.int (Builtin.bitOr i j)):=⟨aME⟩
theorem anA:Op2 X (binaryOp .Add) aMH:=⟨aF0⟩
theorem oEq:Op2 X (compareOp .Eq) rEq:=⟨aPA⟩
theorem oNe:Op2 X (compareOp .NotEq) rNe:=⟨aI4⟩
theorem oLt:Op2 X (compareOp .Lt) (rI0 fun i j=>.bl (decide (i<j))):=⟨aH6⟩
theorem oLe:Op2 X (compareOp .LtE) (rI0 fun i j=>.bl (decide (i<=j))):=⟨aG8⟩
theorem oGt:Op2 X (compareOp .Gt) (rI0 fun i j=>.bl (decide (j<i))):=⟨aI8⟩
theorem oGe:Op2 X (compareOp .GtE) (rI0 fun i j=>.bl (decide (j<=i))):=⟨aIU⟩
theorem xL:Ixs X (aIP X.K):=⟨aCS⟩
theorem xT:Ixs X (aFT X.K):=⟨aDY⟩
theorem as6:Cl1 X (.builtin "len") (fun xs H Q=>∃p ys,xs=[.ref p]/\(SqL X.K H p ys∨SqT X.K H p ys)/\Q (.int ys.length) H):=⟨aq8⟩
theorem aC2:Cl1 X (.builtin "abs") (fun xs H Q=>∃i,xs=[.int i]/\Q (.int (if i<0 then -i else i)) H):=⟨az1⟩
theorem avQ:Cl1 X (.type "int") (fun xs H Q=>(∃i,xs=[.int i]/\Q (.int i) H)∨∃k,xs=[.bl k]/\Q (.int (if k then 1 else 0)) H):=⟨ax7⟩
theorem cII:Cl1 X (.builtin "isinstance") (fun xs H Q=>∃i:Int,xs=[.int i,.ty "int"]/\Q (.bl true) H):=⟨at5⟩
theorem cIB:Cl1 X (.builtin "isinstance") (fun xs H Q=>∃i:Int,xs=[.int i,.ty "bool"]/\Q (.bl false) H):=⟨avH⟩
end
section
variable{X:Cx}{e c iter tg:Expr}{te:TE}{tt:TT}{tA:TA}{wi:TI}{g:TG}{t u tb:TS}{st:Stmt}{rest body ba bb:List Stmt}{pos pos' p:Pos}{x:Str}{a1 a2:Expr}
theorem ssN:Ss X [] aDL:=⟨aCF⟩
theorem ssC(h1:S X st t)(h2:Ss X rest u):Ss X (st::rest) (aPV t u):=⟨aAU h1.h h2.h⟩
theorem ss1(h1:S X st t):Ss X [st] t:=⟨aCB h1.h⟩
theorem arL:S X st aAN:=⟨aA2⟩
theorem aaE(he:E X e te):S X (.Return (some e) pos) (aGB te):=⟨aEU he.h⟩
theorem sIf(hc:T X c tt)(ha:Ss X ba t)(hb:Ss X bb u):S X (.If c ba bb pos) (aLK tt t u):=⟨aM1 hc.h ha.h hb.h⟩
theorem akD(he:E X e te)(hs:swapsWith e none pos.line X.env=pure false:=by rfl):S X (.Expr e pos) (aC6 te):=⟨aCC he.h hs⟩
theorem aaJ(i:Nat)(he:E X e te)(hN:X.N.Nodup)(hi:X.N[i]? =some x:=by rfl)(hx:Loc X.env.scope x:=by first | exact Or.inl rfl | exact Or.inr rfl)(hs:swapsWith e (some (.Name x pos')) pos.line X.env=pure false:=by rfl)
  (hf:X.fn x=true∨X.env.scope.names.lookup x=some .local:=by first | exact .inl rfl | exact .inr rfl):S X (.Assign [.Name x pos'] e pos) (azK te (acO i)):=⟨aD1 hN hi hx he.h hs hf⟩
theorem gN(i:Nat)(hN:X.N.Nodup)(hi:X.N[i]? =some x:=by rfl)(hx:Loc X.env.scope x:=by first | exact Or.inl rfl | exact Or.inr rfl)(hf:X.fn x=true∨X.env.scope.names.lookup x=some .local:=by first | exact .inl rfl | exact .inr rfl):Gt X (.Name x pos) (acO i):=⟨aCA hN hi hx hf⟩
theorem aeK(hi:Il X tg iter wi)(hg:Gt X tg g)(hb:Ss X body tb)(hp:PassesOwn (model X.prog X.w) X.A X.env X.xe)(hc:X.calm=true:=by rfl)(hs:∀x,foldedSetIterable iter X.env x=pure x:=by intro _;rfl):S X (.For tg iter body [] pos) (aK4 wi g tb):=⟨aEN hp hc hi.h hg.h hb.h hs⟩
theorem sWh(hc:T X c tt)(hb:Ss X body tb)(hp:PassesOwn (model X.prog X.w) X.A X.env X.xe):S X (.While c body [] pos) (auE tt tb):=⟨aAH hp hc.h hb.h⟩
theorem iL(hl:E X e te):Il X tg e (aDQ X.K te):=⟨aBA hl.h⟩
theorem iT(hl:E X e te):Il X tg e (aLQ X.K te):=⟨aF4 hl.h⟩
theorem iR1(hm:X.mg "range"=none)(ha:As X [a1] tA)(hg:Gl X "range":=by rfl)(hs:starEach [a1] X.env=[(false,eval a1 X.env)]:=by rfl):Il X tg (.Call (.Name "range" p) [a1] [] pos) (aDP tA):=⟨ayL hg hm ha.h hs⟩
theorem iR2(hm:X.mg "range"=none)(ha:As X [a1,a2] tA)(hg:Gl X "range":=by rfl)(hs:starEach [a1,a2] X.env=[(false,eval a1 X.env),(false,eval a2 X.env)]:=by rfl)(hs2:starEach [a2] X.env=[(false,eval a2 X.env)]:=by rfl):
  Il X tg (.Call (.Name "range" p) [a1,a2] [] pos) (aDE tA):=⟨axQ hg hm ha.h hs hs2⟩
end
section
variable{P:Program}{w:World}{K:FG}{mg:Str->Option Value}{base:Heap}{x:Str}{st:Stmt}{ps N:List Str}{k:Nat}{sp:Sp}
theorem Fn.dfs(F:Fn K mg x st ps)(S':FnScope N ps (aaC st))(len:∀vs H Q E,sp vs H Q E->vs.length=ps.length)
  (hbody:∀(f:Addr) (cdv:Value) (A:Around) (outer:List Env) (s:Shared) (H:Hp) (vs:List V) (Q:VK) (E:XK),Room k (A.deeper (envOfC x (aaC st) s.heap.objs.size f cdv))->sp vs H Q E->
   ∃t,Ss (alI CX0 P w K mg base N x (aaC st) f cdv A outer s H E).nox (aaY st) t/\t {nx:=fun _ H'=>Q .non H',rt:=Q} (start N vs) H):Df P w K mg base x (k+1) ps sp:=
 F.df S' len fun f cdv A outer s H vs Q E hr h=>by
  obtain⟨t,h1,h2⟩:=hbody f cdv A outer s H vs Q E hr h
  exact⟨t,h1.h,h2⟩
theorem Fun.oks{f:Addr}{fd:FuncData}(F:Fun K x x st f fd)(S':FnScope N ps (aaC st))(len:∀vs H Q E,sp vs H Q E->vs.length=ps.length)
  (hbody:∀(cdv:Value) (A:Around) (outer:List Env) (s:Shared) (H:Hp) (vs:List V) (Q:VK) (E:XK),Room k (A.deeper (envOfC x (aaC st) s.heap.objs.size f cdv))->sp vs H Q E->
   ∃t,Ss (alI CX0 P w K mg base N x (aaC st) f cdv A outer s H E).nox (aaY st) t/\t {nx:=fun _ H'=>Q .non H',rt:=Q} (start N vs) H):FnOk P w K mg base CX0 (k+1) f fd ps sp:=
 F.ok S' len fun cdv A outer s H vs Q E hr h=>by
  obtain⟨t,h1,h2⟩:=hbody cdv A outer s H vs Q E hr h
  exact⟨t,h1.h,h2⟩
end
end L2
namespace L2
open PySem PySem.Spec PyProof.Rows PySem.SeqAt
theorem ag7:∀{is:List Int} {us:List Value},Vals (is.map V.int) us->IntsAre us is
 |[],_,.nil=>.nil
 |_::_,_,.cons ⟨_,rfl⟩ r=>.cons _ _ (ag7 r)
section
variable{X:Cx}
theorem ax9(hc:X.calm=true):ad6 X (.builtin "sum") (fun xs H Q=>∃(p:Addr) (is:List Int),xs=[.ref p]/\SqL X.K H p (is.map V.int)/\Q (.int is.sum) H):=by
 intro pins s σ H xs us Q I r h
 obtain⟨p,is,rfl,hq,q⟩:=h
 obtain⟨u,rfl,r1⟩:=acE r
 cases r1
 obtain⟨its,rv,pl,hz⟩:=I.list hq
 have hi:=ag7 rv
 obtain⟨ys,hy⟩:=hi.allInts.items
 have hl:s.heap.IsList p (intItems ys):=by rw[←hy];exact pl.isList
 refine sum_intListG (I.ok.hd hc) hl fun h' tk t' hk=>?_
 have e1:is=ys.toList.map (·.1):=by
  rw[←nums_intItems,←hy]
  exact hi.numsOf.symm
 have e2:preSum (numAt ys) ys.size=is.sum:=by
  rw[preSum_eq,dG (by simp),e1]
 rw[e2]
 exact⟨.int is.sum,H,I.kept hk,⟨_,rfl⟩,q⟩
end
section
variable{X:Cx}{elt iter:Expr}{x y:Str}{px py pos spos:Pos}{ifs:List Expr}{scope:Scope}{wi:TI}{tt:TT}{te:TE}
theorem acD(N':List Str)(js:List Nat)(hi:Il X (.Name x px) iter wi)
  (ht:∀(cl:List (Str×Addr)) (C:Addr) (ex:List Addr) (pins:List (Addr×Obj)) (s:Shared) (H:Hp),Fs (aaN X (x::N') scope cl C ex pins s H) ifs tt)
  (he:∀(cl:List (Str×Addr)) (C:Addr) (ex:List Addr) (pins:List (Addr×Obj)) (s:Shared) (H:Hp),E (aaN X (x::N') scope cl C ex pins s H) elt te)
  (hcl:∃cl,Clos X scope cl:=by exact ao8 rfl rfl rfl rfl) (hx:scope.names.lookup x=some .local:=by rfl) (hnd:(x::N').Nodup:=by decide +kernel) (hN:js.map (fun j=>X.N[j]?)=N'.map some:=by rfl)
  (hk:N'.all (fun y=>(X.env.kindOf y==some .cell)||(X.env.kindOf y==some .free))=true:=by rfl) (hf:N'.all (fun y=>scope.names.lookup y==some .free)=true:=by rfl) (hc:X.calm=true:=by rfl)
  (hs:∀x,foldedSetIterable iter X.env x=pure x:=by intro _;rfl):E X (.ListComp elt [⟨.Name x px,iter,ifs,0⟩] scope pos) (azQ wi js tt te):=by
 obtain⟨cl,hcl⟩:=hcl
 exact⟨aCW hcl hx hnd hN hk hf hc hi.h (fun C ex pins s H=>(ht cl C ex pins s H).h) (fun C ex pins s H=>(he cl C ex pins s H).h) hs⟩
theorem azV(i:Nat)(N':List Str)(js:List Nat)(hi:Il X (.Name x px) iter wi)
  (ht:∀(cl:List (Str×Addr)) (C:Addr) (ex:List Addr) (pins:List (Addr×Obj)) (s:Shared) (H:Hp),Fs (aaN X (x::N') scope cl C ex pins s H) ifs tt)
  (he:∀(cl:List (Str×Addr)) (C:Addr) (ex:List Addr) (pins:List (Addr×Obj)) (s:Shared) (H:Hp),E (aaN X (x::N') scope cl C ex pins s H) elt te)
  (hXN:X.N.Nodup) (hsw:swapsWith (.ListComp elt [⟨.Name x px,iter,ifs,0⟩] scope pos) (some (.Name y py)) spos.line X.env=pure true:=by rfl)
  (hiN:X.N[i]? =some y:=by rfl) (hy:X.env.scope.names.lookup y=some .local:=by rfl)
  (hcl:∃cl,Clos X scope cl:=by exact ao8 rfl rfl rfl rfl) (hx:scope.names.lookup x=some .local:=by rfl) (hnd:(x::N').Nodup:=by decide +kernel) (hN:js.map (fun j=>X.N[j]?)=N'.map some:=by rfl)
  (hk:N'.all (fun y=>(X.env.kindOf y==some .cell)||(X.env.kindOf y==some .free))=true:=by rfl) (hf:N'.all (fun y=>scope.names.lookup y==some .free)=true:=by rfl) (hc:X.calm=true:=by rfl)
  (hs:∀x,foldedSetIterable iter X.env x=pure x:=by intro _;rfl):S X (.Assign [.Name y py] (.ListComp elt [⟨.Name x px,iter,ifs,0⟩] scope pos) spos) (azK (azQ wi js tt te) (acO i)):=by
 obtain⟨cl,hcl⟩:=hcl
 refine⟨fun pins s σ H D I h=>?_⟩
 rw[exec_Assign_Name_used _ _ _ _ hsw]
 refine dN (wpAny_standAt (dN ?_))
 show wpAny _ X.A (do let _ ←comprehension (.ListComp elt [⟨.Name x px,iter,ifs,0⟩] scope pos) scope X.env _ (newList []) false (eval iter X.env) (some (assign (.Name y py) X.env))) _ _ s
 refine dN (dO (wpAny_comprehension_free (use:=some (assign (.Name y py) X.env)) (Q:=fun _ s'=>SP X pins D .next s') rfl hs hcl.is hcl.kind hcl.names ?_) (fun _ s' hq=>eC (eC hq)) fun _ _ z=>z)
 refine thn (hi.h pins s σ H _ I h) fun xv s₁ h₁=>thn h₁ fun itv s₂ h₂=>?_
 obtain⟨it,fp,tn,J,H2,rfl,I2,T,st,hfp,q⟩:=h₂
 refine al6 (Q:=fun v H'=>D.nx (σ.set i (some v)) H') (RR:=fun acc C=>compPost (model X.prog X.w) X.A X.xe (some (assign (.Name y py) X.env)) (fun _ s'=>SP X pins D .next s') acc C) hcl hx hnd hN hk hf hc (fun C ex pins s H=>(ht cl C ex pins s H).h) (fun C ex pins s H=>(he cl C ex pins s H).h) I2 T st hfp q ?_
 intro D' C s' H' m I' hC0 hCL hCs hCc hCp hn hq
 show wpAny _ _ (assign (.Name y py) X.env (.ref D')) _ _ s'
 refine wpAny_assign_Name (an1 I' hXN hiN (.inl hy) (v:=.ref D') rfl (fun s3 I3 sb3=>?_) (.inr hy))
 obtain⟨a3,sb3,e3⟩:=sb3
 have hCa:C≠a3:=by
  rcases e3 with e3 | e3
  ·rw[e3];exact hCL
  ·exact fun z=>hCc y a3 e3 z.symm
 refine⟨m,hn.sameBut sb3 hCa,fun h' sb=>⟨σ.set i (some (.ref D')),H',?_,hq⟩⟩
 exact I3.turned (t':=s3.toks) (fun b o hb e=>(sb.2 b hb).trans e) hC0 hCL (.inr hCs) hCc hCp
theorem fsN:Fs X [] aNM:=⟨aEV⟩
theorem fs1{c:Expr}(h:T X c tt):Fs X [c] tt:=⟨aE2 h.h⟩
theorem aH8(hc:X.calm=true:=by rfl):Cl1 X (.builtin "sum") (fun xs H Q=>∃(p:Addr) (is:List Int),xs=[.ref p]/\SqL X.K H p (is.map V.int)/\Q (.int is.sum) H):=⟨ax9 hc⟩
theorem gTu{es:List Expr}{k n:Nat}{t:TGs}(h:Gts X es t)(hc:X.calm=true:=by rfl)(hn:(assignEach es X.env).length=n:=by rfl)(hst:(assignEach es X.env).findIdx? (·.1)=none:=by rfl):Gt X (.Tuple es k pos) (azG X.K n t):=⟨aEH hc h.h hn hst⟩
theorem gsN:Gts X [] aBM:=⟨aBP⟩
theorem gsC{e:Expr}{es:List Expr}{t:TG}{u:TGs}(h1:Gt X e t)(h2:Gts X es u)(hs:(assignEach (e::es) X.env).map (·.2)=assign e X.env::(assignEach es X.env).map (·.2):=by rfl):Gts X (e::es) (aoH t u):=⟨azE h1.h h2.h hs⟩
theorem ag0{tg e:Expr}{g:TG}(he:E X e te)(hg:Gt X tg g)(hs:swapsWithSole [tg] e pos.line X.env=pure false:=by rfl)(hw:swappedStores [tg] e X.env=pure none:=by rfl)
  (h1:(assignEach [tg] X.env).map (·.2)=[assign tg X.env]:=by rfl):S X (.Assign [tg] e pos) (azK te g):=⟨aF3 he.h hg.h hs hw h1⟩
end
section
variable{js:List Nat}{σ:St}{tt:TT}{te:TE}{Q:VK}{H1:Hp}
theorem ab8{K:FG}{a:Addr}{xs:List V}(R:Nat->List V->Prop)(hn:xs.length<=sizeLine)(h0:R 0 [])(hq:SqL K H1 a xs)
  (hs:∀(i:Nat) (v:V) (l:List V) (D:Addr) (H2:Hp) (E:V->Hp->Prop) (F:Hp->Prop),xs[i]? =some v->R i l->H1 D=none->Same H1 H2->H2 D=some (.lst l)->(∀y H5,Same H2 H5->R (i+1) (l++[y])->E y H5)->(∀H4,Same H2 H4->R (i+1) l->F H4)->
   tt (some v::aaW js σ) H2 fun b H4=>if b=true then te (some v::aaW js σ) H4 E else F H4)
  (hd:∀(D:Addr) (H2:Hp) (l:List V),R xs.length l->H1 D=none->Same H1 H2->H2 D=some (.lst l)->Q (.ref D) H2):asX (Itl K a) js σ tt te Q H1:=by
 intro D hD
 refine⟨fun i m H2=>m=xs.length-i/\i<=xs.length/\Same H1 H2/\∃l,H2 D=some (.lst l)/\l.length<=i/\R i l,⟨xs.length,by simp,aZ _,aaB hD _,[],aaA,aO _,h0⟩,?_⟩
 rintro i m H2 ⟨rfl,hi,s2,l,h2,hll,hR⟩
 by_cases hlt:i<xs.length
 ·refine .inr ⟨⟨xs,xs[i],s2.seq hq,by simp[hlt]⟩,fun v H3 y=>?_⟩
  obtain⟨e,ev⟩:=y
  subst e
  have hv:=ev xs (s2.seq hq)
  refine hs i v l D _ _ _ hv hR hD s2 h2 (fun z H5 s5 r5=>?_) (fun H4 s4 r4=>?_)
  ·refine⟨l,s5 _ _ h2,dA hll (aX hlt hn),xs.length-(i+1),by omega,rfl,hlt,fun b o hb=>?_,l++[z],aaA,by rw[aP,bL];omega,r5⟩
   rw[aaH (aaL hb hD)]
   exact s5 _ _ (s2 _ _ hb)
  ·exact⟨xs.length-(i+1),by omega,rfl,hlt,s2.trans s4,l,s4 _ _ h2,by omega,r4⟩
 ·have e:i=xs.length:=by omega
  subst e
  exact .inl ⟨⟨xs,s2.seq hq,aO _⟩,hd D H2 l hR hD s2 h2⟩
noncomputable def IntsR(i:Nat)(l:List V):Prop:=∃zs:List Int,l=zs.map V.int/\zs.length<=i
theorem IntsR.nil:IntsR 0 []:=⟨[],rfl,aO _⟩
theorem aw8{zs:List Int}{i:Nat}{x:V}(h:(zs.map V.int)[i]? =some x):∃z:Int,x=V.int z:=by
 rw[aY] at h
 cases e:zs[i]? with
 |none=>rw[e] at h;cases h
 |some z=>rw[e] at h;exact⟨z,(a8 h).symm⟩
theorem Same.tup{K:FG}{H H':Hp}{a:Addr}{xs:List V}(e:Same H H')(h:SqT K H a xs):SqT K H' a xs:=by
 rcases h with (h | ⟨o,h⟩) | h
 ·exact .inl (.inl (e _ _ h))
 ·exact .inl (.inr ⟨o,e _ _ h⟩)
 ·exact .inr h
theorem aoV{α:Type}(f:Nat->α)(n:Nat):(List.range (n+1)).map f=(List.range n).map f++[f n]:=by rw[List.range_succ,aT];rfl
theorem acU{c:TT}{tb:TS}{D:Ends}{σ:St}{H:Hp}(Pv:St->Hp->Prop)(μ:St->Hp->Nat)(h0:Pv σ H)
  (hs:∀σ H,Pv σ H->c σ H fun b H1=>if b=true then ∃N:St->Hp->Prop,(∀σ' H',N σ' H'->∃m',m'<μ σ H/\m'=μ σ' H'/\Pv σ' H')/\tb {D with nx:=N,ct:=N,bk:=D.nx} σ H1 else D.nx σ H1):auE c tb D σ H:=
 ⟨fun m σ H=>m=μ σ H/\Pv σ H,⟨_,rfl,h0⟩,by
  rintro m σ H ⟨rfl,p⟩
  exact hs σ H p⟩
theorem avR{X:Cx}:Op1 X (unaryOp .USub) (rU fun i=>.int (-i)):=⟨aFE⟩
end
section
variable{prog:Program}{w:World}{A:Around}{E:Value->Shared->Prop}{s:Shared}
theorem aC8{it l:Addr}{its:Array Value}(hne:l≠it):∀(n i:Nat) (s:Shared) (Q:List Value->Shared->Prop),s.heap.IsListIter it l i->s.heap.IsList l its->i+n<=its.size->
  (∀h',h'.IsListIter it l (i+n)->Heap.SameBut it s.heap h'->Q ((its.toList.drop i).take n) {s with heap:=h'})->wpAny (model prog w) A (draw (.ref it) n) Q E s
 |0,i,s,Q,hit,_,_,hQ=>by
  have z:wpAny (model prog w) A (pure ([]:List Value)) Q E s:=eC (by simpa using hQ s.heap hit (Heap.SameBut.refl ..))
  exact z
 |n+1,i,s,Q,hit,hl,hle,hQ=>by
  have hi:i<its.size:=by omega
  have z:wpAny (model prog w) A (pyNext (.ref it)) (fun r s₁=>wpAny (model prog w) A (match r with | none=>pure [] | some v=>(do let rest ←holding [v] (draw (.ref it) n);pure (v::rest))) Q E s₁) E s:=by
   refine wpAny_pyNext_list_item hit hl (x:=its[i]) (by simp[hi]) fun h₁ hit₁ hs₁=>?_
   refine dN (dR (aC8 hne n (i+1) _ _ hit₁ (hl.extBut hs₁.extBut hne) (by omega) fun h₂ hit₂ hs₂=>eC ?_))
   have hd:its.toList.drop i=its[i]::its.toList.drop (i+1):=by simp[List.drop_eq_getElem_cons,hi]
   have e:i+(n+1)=i+1+n:=by omega
   have q:=hQ h₂ (by rw[e];exact hit₂) (hs₁.trans hs₂)
   rw[hd,List.take_succ_cons] at q
   exact q
  exact dN z
theorem aA8{l:Addr}{its:Array Value}{Q:List Value->Shared->Prop}(hh:A.handled=none)(hl:s.heap.IsList l its)(hQ:∀h',Heap.ExtBut s.heap.objs.size s.heap h'->Q its.toList {s with heap:=h'}):
  wpAny (model prog w) A (unpackItems (.ref l) its.size none) Q E s:=by
 have hne:l≠s.heap.objs.size:=by
  obtain⟨o,ho,_⟩:=hl
  exact aV (aQ ho)
 unfold unpackItems
 refine dN ?_
 unfold notIterableAtAll
 refine dN (wpAny_specialOf hl.typeIs slot_list_iter.lookup (eC ?_))
 simp only[Bool.false_eq_true,if_false]
 refine dN (dR (wpAny_pyIter_list hl (dN (dR (aC8 hne its.size 0 _ _ ⟨_,bC _ rfl,rfl,rfl⟩ (hl.push _) (by omega) fun h₁ hit₁ hs₁=>?_)))))
 have all:List.take its.size (List.drop 0 its.toList)=its.toList:=by
  rw[List.drop_zero]
  exact dG (by simp)
 rw[all,if_neg (by simp)]
 have hl₁:h₁.IsList l its:=(hl.push _).extBut hs₁.extBut hne
 refine dN (dR (wpAny_pyNext_list_end hh hit₁ hl₁ (by simp) fun h₂ he₂=>?_))
 simp only[Option.isSome_none,Bool.false_eq_true,if_false]
 exact eC (hQ h₂ fun b o hb e=>he₂ b o hb (hs₁.extBut b o hb (aS _ e)))
end
noncomputable def aM7(K:FG)(n:Nat)(t:TGs):TG:=fun v σ H Q=>∃a xs,v=.ref a/\SqL K H a xs/\xs.length=n/\t xs σ H Q
section
variable{X:Cx}{pos:Pos}
theorem aFG{es:List Expr}{k n:Nat}{t:TGs}(h:Gts X es t)(hc:X.calm=true:=by rfl)(hn:(assignEach es X.env).length=n:=by rfl)(hst:(assignEach es X.env).findIdx? (·.1)=none:=by rfl):Gt X (.Tuple es k pos) (aM7 X.K n t):=by
 refine⟨fun pins s σ H v u Q I r hw=>?_⟩
 obtain⟨a,xs,e1,hq,hl,hw⟩:=hw
 subst e1
 cases r
 obtain⟨its,rv,pl,hz⟩:=I.list hq
 rw[assign_Tuple]
 refine dN (wpAny_standAt ?_)
 unfold unpack
 have e2:(assignEach es X.env).length=its.toArray.size:=by rw[hn,←hl,rv.length,bN]
 rw[e2,hst]
 refine dN (dR (aA8 (I.ok.hd hc) pl.isList fun h' hx=>?_))
 have I1:Inv X pins σ H {s with heap:=h'}:=I.kept (t':=s.toks) fun b o e=>hx b o (aV (aQ e)) e
 exact h.h pins _ σ H xs _ Q I1 (by simpa using rv) hw
theorem akW{o e:Expr}{to te:TE}{apos cpos:Pos}(ho:E X o to)(he:E X e te)(hbase:attributeBase o "append" X.env (eval o X.env)=eval o X.env:=by rfl)
  (hfew:((backTo cpos (starEach [e] X.env)).all (fun x=> !x.1)&&(backToKw cpos (keywordEach [] X.env)).all (fun x=>x.1.isSome)&&decide (([e]:List Expr).length+([]:List Keyword).length+(if ([]:List Keyword).isEmpty then 0 else 1)<30))=true:=by rfl)
  (hline:(apos.endLine==cpos.line)=true:=by rfl) (hs:starEach [e] X.env=(false,eval e X.env)::starEach [] X.env:=by rfl) (hplain:(backTo cpos (starEach [] X.env)).any (·.1)=false:=by rfl):
  E X (.Call (.Attribute o "append" apos) [e] [] cpos) (tBM X.K "list" avT to (ajO te aiE)):=
 ⟨asL PySem.F.plainAttrs_list PySem.F.slot_list_append PySem.F.type_list_append aiM ho.h (adC he.h afF hs) hbase hfew hline hs hplain⟩
end
section
variable{js:List Nat}{σ:St}{tt:TT}{te:TE}{Q:VK}{H1:Hp}
end
noncomputable def Digs(ds ss:List Int):Prop:=Paired (fun d z:Int=>0<=d/\d<z) ds ss
theorem Digs.snoc{ds ss:List Int}{d z:Int}(h:Digs ds ss)(h0:0<=d)(h1:d<z):Digs (ds++[d]) (ss++[z]):=Paired.snoc h ⟨h0,h1⟩
theorem Digs.len{ds ss:List Int}(h:Digs ds ss):ds.length=ss.length:=Paired.length h
theorem Digs.two{ds:List Int}{a b:Int}(h:Digs ds [a,b]):∃x y:Int,ds=[x,y]/\(0<=x/\x<a)/\0<=y/\y<b:=by
 cases h with
 |cons h1 r=>cases r with | cons h2 r=>cases r;exact⟨_,_,rfl,h1,h2⟩
theorem aa4{H H2:Hp}{p:Addr}{o:HO}(hn:H p=none)(s:Same H H2):Same H (upd H2 p o):=fun b u h=>by
 rw[aaH (aaL h hn)]
 exact s b u h
theorem aGO{a m b:Int}(h0:0<m)(h1:m<=18446744073709551616):CMul (a%m) b:=.inl ⟨Int.lt_of_lt_of_le (by decide) (b8 a (Int.ne_of_gt h0)),Int.lt_of_lt_of_le (b9 a h0) h1⟩
theorem aIF:(10:Int)^(18:Int).toNat=1000000000000000000:=by decide +kernel
theorem aJJ:(10:Int)^(58:Int).toNat=10000000000000000000000000000000000000000000000000000000000:=by decide +kernel
structure FnM(K:FG)(C:Addr)(m qual:Str)(st:Stmt)(ps:List Str):Prop where
 ex:∃(f:Addr) (fd:FuncData),Fun K m qual st f fd/\Binds K fd ps []/\Meth K C m f
structure DfM(P:Program)(w:World)(K:FG)(mg:Str->Option Value)(base:Heap)(C:Addr)(m:Str)(k:Nat)(ps:List Str)(sp:Sp):Prop where
 ex:∃(f:Addr) (fd:FuncData),FnOk P w K mg base CX0 k f fd ps sp/\Binds K fd ps []/\Meth K C m f
structure Cd(K:FG)(mg:Str->Option Value)(x:Str)(C:Addr):Prop where
 at_:mg x=some (.ref C)
 cl:Cls K C
 makes:PySem.W.makesIn K C=true
 kp:PySem.W.keepIn K (.ref C)=true
section
variable{P:Program}{w:World}{K:FG}{mg:Str->Option Value}{base:Heap}{m qual:Str}{st:Stmt}{ps N:List Str}{k:Nat}{sp:Sp}{C:Addr}
theorem FnM.dfs(F:FnM K C m qual st ps)(S':FnScope N ps (aaC st))(len:∀vs H Q E,sp vs H Q E->vs.length=ps.length)
  (hbody:∀(f:Addr) (cdv:Value) (A:Around) (outer:List Env) (s:Shared) (H:Hp) (vs:List V) (Q:VK) (E:XK),Room k (A.deeper (envOfC qual (aaC st) s.heap.objs.size f cdv))->sp vs H Q E->
   ∃t,Ss (alI CX0 P w K mg base N qual (aaC st) f cdv A outer s H E).nox (aaY st) t/\t {nx:=fun _ H'=>Q .non H',rt:=Q} (start N vs) H):DfM P w K mg base C m (k+1) ps sp:=by
 obtain⟨f,fd,F1,hb,hm⟩:=F.ex
 refine⟨⟨f,fd,F1.ok S' len fun cdv A outer s H vs Q E hr h=>?_,hb,hm⟩⟩
 obtain⟨t,h1,h2⟩:=hbody f cdv A outer s H vs Q E hr h
 exact⟨t,h1.h,h2⟩
theorem aa1{f:Addr}{oc:Value}{od an:Option Addr}{osl:Array (Option Value)}{kV doc pm cdv ct:Value}
  (a:PySem.W.findIn K (.ref C) m=some (some (.ref f))) (i:PySem.W.isFn K (.ref f)=true) (l:K.lookup f=some ⟨oc,od,.func (PySem.W.fnOf m qual (abS st) (aaY st) (aaC st) .none kV doc pm an cdv ct),osl⟩)
  (c:PySem.W.codeIn K cdv qual=true) (k:PySem.W.keepIn K (.ref f)=true)
  (hb:∀(kV doc pm:Value) (an:Option Addr) (cdv ct:Value) (us:List Value),us.length=ps.length->bindArgs (PySem.W.fnOf m qual (abS st) (aaY st) (aaC st) .none kV doc pm an cdv ct) ⟨us,[]⟩=pure (ps.zip us)):FnM K C m qual st ps:=by
 have F:=auX (st:=st) l c k
 exact⟨⟨f,_,F,F.binds (ps:=ps) hb,⟨a,i,k⟩⟩⟩
end
section
variable{X:Cx}{x m:Str}{C:Addr}{k k':Nat}{ps:List Str}{sp:Sp}{e o value:Expr}{es:List Expr}{ta tv:TE}{t:TA}{p pos apos pos':Pos}{f:Str}
theorem eMk(c:Cd X.K X.mg x C)(D:DfM X.prog X.w X.K X.mg X.base C "__init__" k ps sp)(hr:Room k' X.A)(ha:As X (e::es) t)(hk:k+1<=k':=by decide)(hg:Gl X x:=by rfl)(hdb:(x==("__debug__":Str))=false:=by decide)
  (he:starEach (e::es) X.env=(false,eval e X.env)::starEach es X.env:=by rfl) (hpl:(backTo pos (starEach es X.env)).any (·.1)=false:=by rfl):E X (.Call (.Name x p) (e::es) [] pos) (awL C sp [] E0 t):=by
 obtain⟨f,fd,F,hb,hm⟩:=D.ex
 exact⟨aCY ⟨c.makes,hm.at_,hm.fn,c.kp⟩ F (hr.mono hk) hg c.at_ hb .nil aoP ha.h hdb he hpl⟩
theorem eMe{pl:Sem Bool}(c:Cls X.K C)(D:DfM X.prog X.w X.K X.mg X.base C m k ps sp)(hr:Room k' X.A)(ho:E X o ta)(ha:As X (e::es) t)(hk:k<=k':=by decide)
  (hst:starEach (e::es) X.env=(false,eval e X.env)::starEach es X.env:=by rfl) (hpl:(backTo pos (starEach es X.env)).any (·.1)=false:=by rfl)
  (ht:eval (.Call (.Attribute o m apos) (e::es) [] pos) X.env=(do
   let ov ←eval o X.env
   standAt apos.atName
   let (f,first) ←holding [ov] (getMethod ov m pl)
   callWith pos f first (backTo pos (starEach (e::es) X.env)) (backToKw pos (keywordEach [] X.env))):=by rfl):E X (.Call (.Attribute o m apos) (e::es) [] pos) (aw7 C m sp [] E0 ta t):=by
 obtain⟨f,fd,F,hb,hm⟩:=D.ex
 exact⟨aB8 ho.h c hm F (hr.mono hk) hb .nil aoP ha.h hst hpl ht⟩
theorem eFl(he:E X e ta)(hb:attributeBase e f X.env (eval e X.env)=eval e X.env:=by rfl):E X (.Attribute e f pos) (aOS X.K ta f):=⟨aEE he.h hb⟩
theorem sFl(ha:E X o ta)(hv:E X value tv)(hs:swapsWith value (some (.Attribute o f pos')) pos.line X.env=pure false:=by rfl):S X (.Assign [.Attribute o f pos'] value pos) (aO2 X.K ta tv f):=⟨aEY ha.h hv.h hs⟩
noncomputable def tMkN(C:Addr):TE:=fun _ H Q=>∀x dx,H x=none->H dx=none->dx≠x->Q (.ref x) (upd (upd H dx (.own x)) x (.ins C dx []))
theorem eMkN(c:Cd X.K X.mg x C)(hi:PySem.W.findIn X.K (.ref C) "__init__"=some (some (.builtin "object.__init__")))(hg:Gl X x:=by rfl)(hdb:(x==("__debug__":Str))=false:=by decide):E X (.Call (.Name x p) [] [] pos) (tMkN C):=by
 refine⟨fun pins s σ H Q I h=>?_⟩
 refine dZ (ahV I hg c.at_ ?_ hdb)
 refine PySem.W.callWith_K0 I.kIn c.kp (wpAny_call ?_)
 have hq:=h (s.heap.objs.size+1) s.heap.objs.size (I.hok.fresh (Nat.le_succ _)) (I.hok.fresh (aO _)) (aV (cR _))
 have I2:=Inv.made (C:=C) I
 have e2:((s.heap.push PySem.W.emptyDict).push (PySem.W.instObj C s.heap.objs.size)).get? (s.heap.objs.size+1)=some (PySem.W.instObj C s.heap.objs.size):=by
  have:=bC (s.heap.push PySem.W.emptyDict) (o:=PySem.W.instObj C s.heap.objs.size) rfl
  rwa [cG] at this
 have Y:=PySem.W.makes_of (M:=model X.prog X.w) I.kIn c.makes
 refine axY I.kIn c.makes hi (fun self=>PySem.W.Looks.of_pure (PySem.W.oi_bind self)) ?_
 have t1:PySem.W.Looks (model X.prog X.w) ((s.heap.push PySem.W.emptyDict).push (PySem.W.instObj C s.heap.objs.size)) (typeOf (.ref (s.heap.objs.size+1))) (.ref C):=(PySem.W.Looks.ld e2).andThen .now
 have t2:PySem.W.Looks (model X.prog X.w) ((s.heap.push PySem.W.emptyDict).push (PySem.W.instObj C s.heap.objs.size)) (isInstance (.ref (s.heap.objs.size+1)) (.type "object")) true:=t1.andThen (Y.top.keeps fun b o q=>aS _ (aS _ q))
 refine codeAny_call_builtin PySem.W.oi_plain PySem.W.entry_oi (@PySem.W.check_slot (model X.prog X.w) _ _ _ "object.__init__" "object" "__init__" (.ref (s.heap.objs.size+1)) [] [] _ PySem.W.oi_kind PySem.W.oi_split t2 (PySem.W.oi_args (.ref (s.heap.objs.size+1))) ?_)
 rw[PySem.W.oi_run]
 exact eC (And.intro rfl ⟨V.ref (s.heap.objs.size+1),_,I2,rfl,hq⟩)
end
structure Po(X:Cx)(o:Option Expr)(t:TO):Prop where
 h:PO X o t
structure Sls(X:Cx)(r:V->Option Int->Option Int->Hp->VK->Prop):Prop where
 h:SlR X r
section
variable{X:Cx}{e:Expr}{te:TE}{lo hi:Option Expr}{tl th:TO}{pos p2:Pos}
theorem poN:Po X none awD:=⟨aBT⟩
theorem poS(h:E X e te):Po X (some e) (aDI te):=⟨aB4 h.h⟩
theorem slL:Sls X (aPQ X.K):=⟨aB7⟩
theorem eSl{r:V->Option Int->Option Int->Hp->VK->Prop}(hr:Sls X r)(he:E X e te)(hl:Po X lo tl)(hu:Po X hi th):E X (.Subscript e (.Slice lo hi none p2) pos) (tSl r te tl th):=⟨aAL hr.h he.h hl.h hu.h⟩
end
noncomputable def avM(xs:List Int)(lo hi:Option Int):List Int:=(xs.drop (HT.sIx xs.length 0 lo)).take (HT.sIx xs.length xs.length hi-HT.sIx xs.length 0 lo)
theorem aAI(xs:List Int)(lo hi:Option Int):ae8 (xs.map V.int) lo hi=(avM xs lo hi).map V.int:=by
 unfold ae8 avM
 rw[aM,List.map_take,List.map_drop]
structure FunD(K:FG)(x qual:Str)(st:Stmt)(f:Addr)(fd:FuncData):Prop where
 ex:∃(oc:Value) (od:Option Addr) (dV kV doc pm:Value) (an:Option Addr) (cdv ct:Value) (osl:Array (Option Value)),
  fd=PySem.W.fnOf x qual (abS st) (aaY st) (aaC st) dV kV doc pm an cdv ct/\K.lookup f=some ⟨oc,od,.func fd,osl⟩/\PySem.W.codeIn K cdv qual=true
 kp:PySem.W.keepIn K (.ref f)=true
structure FnMD(K:FG)(C:Addr)(m qual:Str)(st:Stmt)(ps:List Str)(dvs:List V):Prop where
 ex:∃(f:Addr) (fd:FuncData) (ds:List Value),FunD K m qual st f fd/\Binds K fd ps []/\Vals dvs ds/\Binds K fd ps ds/\Meth K C m f
structure DfMD(P:Program)(w:World)(K:FG)(mg:Str->Option Value)(base:Heap)(C:Addr)(m:Str)(k:Nat)(ps:List Str)(sp:Sp)(dvs:List V):Prop where
 ex:∃(f:Addr) (fd:FuncData) (ds:List Value),FnOk P w K mg base CX0 k f fd ps sp/\Binds K fd ps []/\Vals dvs ds/\Binds K fd ps ds/\Meth K C m f
section
variable{P:Program}{w:World}{K:FG}{mg:Str->Option Value}{base:Heap}{m qual:Str}{st:Stmt}{ps N:List Str}{k:Nat}{sp:Sp}{C:Addr}{dvs:List V}
theorem DfMD.dfm(D:DfMD P w K mg base C m k ps sp dvs):DfM P w K mg base C m k ps sp:=by
 obtain⟨f,fd,ds,a,b,_,_,e⟩:=D.ex
 exact⟨⟨f,fd,a,b,e⟩⟩
theorem FnMD.dfs(F:FnMD K C m qual st ps dvs)(S':FnScope N ps (aaC st))(len:∀vs H Q E,sp vs H Q E->vs.length=ps.length)
  (hbody:∀(f:Addr) (cdv:Value) (A:Around) (outer:List Env) (s:Shared) (H:Hp) (vs:List V) (Q:VK) (E:XK),Room k (A.deeper (envOfC qual (aaC st) s.heap.objs.size f cdv))->sp vs H Q E->
   ∃t,Ss (alI CX0 P w K mg base N qual (aaC st) f cdv A outer s H E).nox (aaY st) t/\t {nx:=fun _ H'=>Q .non H',rt:=Q} (start N vs) H):DfMD P w K mg base C m (k+1) ps sp dvs:=by
 obtain⟨f,fd,ds,F1,hb,hv,hbd,hm⟩:=F.ex
 refine⟨⟨f,fd,ds,?_,hb,hv,hbd,hm⟩⟩
 obtain⟨oc,od,dV,kV,doc,pm,an,cdv,ct,osl,rfl,lk,hcd⟩:=F1.ex
 refine aC5 lk hcd S' len fun A outer s H vs Q E hr hsp=>?_
 obtain⟨t,h,q⟩:=hbody f cdv A outer s H vs Q E hr hsp
 exact⟨t,h.h.nox,q⟩
theorem aB9{f:Addr}{oc:Value}{od an:Option Addr}{osl:Array (Option Value)}{dV kV doc pm cdv ct:Value}{ds:List Value}
  (a:PySem.W.findIn K (.ref C) m=some (some (.ref f))) (i:PySem.W.isFn K (.ref f)=true) (l:K.lookup f=some ⟨oc,od,.func (PySem.W.fnOf m qual (abS st) (aaY st) (aaC st) dV kV doc pm an cdv ct),osl⟩)
  (c:PySem.W.codeIn K cdv qual=true) (k:PySem.W.keepIn K (.ref f)=true)
  (hb:Binds K (PySem.W.fnOf m qual (abS st) (aaY st) (aaC st) dV kV doc pm an cdv ct) ps []) (hv:Vals dvs ds) (hd:Binds K (PySem.W.fnOf m qual (abS st) (aaY st) (aaC st) dV kV doc pm an cdv ct) ps ds):FnMD K C m qual st ps dvs:=
 ⟨⟨f,_,ds,⟨⟨oc,od,dV,kV,doc,pm,an,cdv,ct,osl,rfl,l,c⟩,k⟩,hb,hv,hd,⟨a,i,k⟩⟩⟩
end
section
variable{X:Cx}{x:Str}{C:Addr}{k k':Nat}{ps:List Str}{sp:Sp}{p pos:Pos}{dvs:List V}
theorem eMkD(c:Cd X.K X.mg x C)(D:DfMD X.prog X.w X.K X.mg X.base C "__init__" k ps sp dvs)(hr:Room k' X.A)(hk:k+1<=k':=by decide)(hg:Gl X x:=by rfl)(hdb:(x==("__debug__":Str))=false:=by decide):
  E X (.Call (.Name x p) [] [] pos) (awL C sp dvs E0 aiE):=by
 obtain⟨f,fd,ds,F,_,hv,hb,hm⟩:=D.ex
 exact⟨ay9 ⟨c.makes,hm.at_,hm.fn,c.kp⟩ F (hr.mono hk) hg c.at_ hb hv aoP hdb⟩
end
theorem alS{H:Hp}{xo dx:Addr}{a b:HO}(nx:H xo=none)(ndx:H dx=none):Same H (upd (upd H dx a) xo b):=fun z u hb=>by
 rw[aaH (aaL hb nx),aaH (aaL hb ndx)]
 exact hb
theorem acY{H:Hp}{xo dx:Addr}{a b c:HO}(nx:H xo=none)(ndx:H dx=none):Same H (upd (upd (upd H dx a) xo b) xo c):=fun z u hb=>by
 rw[aaH (aaL hb nx)]
 exact alS nx ndx z u hb
theorem ayW{H:Hp}{xo dx:Addr}{a b c d:HO}(nx:H xo=none)(ndx:H dx=none):Same H (upd (upd (upd (upd H dx a) xo b) xo c) xo d):=fun z u hb=>by
 rw[aaH (aaL hb nx)]
 exact acY nx ndx z u hb
end L2
namespace L2
open PySem PyProof.Rows
noncomputable def aIH(p:Nat->Bool):Nat->Nat
 |0=>0
 |n+1=>aIH p n+(if p n=true then 2^n else 0)
@[irreducible] noncomputable def cnt(p:Nat->Bool)(n:Nat):Nat:=aIH p n
theorem al9(p:Nat->Bool):cnt p 0=0:=by rw[cnt];rfl
theorem alE(p:Nat->Bool)(n:Nat):cnt p (n+1)=cnt p n+(if p n=true then 2^n else 0):=by rw[cnt,cnt];rfl
theorem at7(p:Nat->Bool):∀n,cnt p n<2^n
 |0=>by rw[al9];decide
 |n+1=>by
  have h:=at7 p n
  rw[alE,Nat.pow_succ]
  split<;>omega
theorem aw3(p:Nat->Bool):∀n i,(cnt p n).testBit i=(decide (i<n)&&p i)
 |0,i=>by rw[al9];simp
 |n+1,i=>by
  have h:=at7 p n
  have ih:=aw3 p n i
  rw[alE]
  by_cases hp:p n=true
  ·rw[if_pos hp,Nat.add_comm]
   rcases Nat.lt_trichotomy i n with hi | hi | hi
   ·rw[Nat.testBit_two_pow_add_gt hi,ih]
    simp[hi,cH hi]
   ·subst hi
    rw[Nat.testBit_two_pow_add_eq,ih]
    simp[hp]
   ·have h2:2^n+cnt p n<2^i:=aX (by rw[Nat.pow_succ];omega) (Nat.pow_le_pow_right (by decide) hi)
    rw[Nat.testBit_lt_two_pow h2]
    have:¬i<n+1:=by omega
    simp[this]
  ·rw[if_neg hp,Nat.add_zero,ih]
   by_cases e:i=n
   ·subst e
    simp[hp]
   ·have:(i<n+1)↔(i<n):=by omega
    simp[this]
noncomputable def tb(m:Int)(i:Nat):Bool:=m.toNat.testBit i
theorem abX(k:Nat):((2^k:Nat):Int)=(2:Int)^k:=by rw[Int.natCast_pow];rfl
theorem acF(k:Nat):(0:Int)<2^k:=by rw[←abX];exact Int.natCast_pos.mpr (Nat.two_pow_pos k)
theorem awI{m:Int}(h:0<=m)(k:Nat):m / 2^k=((m.toNat >>> k:Nat):Int):=by
 obtain⟨n,rfl⟩:=dB h
 rw[bP,Nat.shiftRight_eq_div_pow,←abX,Int.natCast_ediv]
theorem avW(a b:Nat):Builtin.bitAnd (a:Int) (b:Int)=((a&&& b:Nat):Int):=bitAnd_pp (c5 a) (c5 b)
theorem ay0(a b:Nat):Builtin.bitOr (a:Int) (b:Int)=((a||| b:Nat):Int):=by
 rw[bitOr_and,avW]
 have:=nat_or_add_and a b
 omega
theorem acT{m:Int}(h:0<=m)(k:Nat):(Builtin.bitAnd (m / 2^k) 1=1)↔tb m k=true:=by
 rw[awI h,show (1:Int)=((1:Nat):Int) from rfl,avW]
 unfold tb
 rw[Nat.testBit_eq_decide_div_mod_eq,Nat.shiftRight_eq_div_pow]
 have:m.toNat / 2^k&&& 1=m.toNat / 2^k%2:=Nat.and_two_pow_sub_one_eq_mod _ 1
 rw[this]
 simp only[dX]
 omega
theorem aqV{a b:Int}(ha:0<=a)(hb:0<=b):0<=Builtin.bitAnd a b:=by rw[bitAnd_pp ha hb];exact c5 _
theorem adD{a b:Int}(ha:0<=a)(hb:0<=b):0<=Builtin.bitOr a b:=by
 obtain⟨x,rfl⟩:=dB ha
 obtain⟨y,rfl⟩:=dB hb
 rw[ay0]
 exact c5 _
theorem amZ{a b:Int}(ha:0<=a)(hb:0<=b)(i:Nat):tb (Builtin.bitAnd a b) i=(tb a i&&tb b i):=by
 unfold tb
 rw[bitAnd_pp ha hb,bP,Nat.testBit_and]
theorem ahE{a b:Int}(ha:0<=a)(hb:0<=b)(i:Nat):tb (Builtin.bitOr a b) i=(tb a i||tb b i):=by
 obtain⟨x,rfl⟩:=dB ha
 obtain⟨y,rfl⟩:=dB hb
 unfold tb
 rw[ay0,bP,Nat.testBit_or,bP,bP]
theorem aAK(k i:Nat):tb (2^k) i=decide (k=i):=by
 unfold tb
 rw[←abX,bP,Nat.testBit_two_pow]
theorem abL(i:Nat):tb 0 i=false:=by unfold tb;simp
theorem aa0{a b:Int}(ha:0<=a)(hb:0<=b)(h:∀i,tb a i=tb b i):a=b:=by
 have:a.toNat=b.toNat:=Nat.eq_of_testBit_eq h
 omega
theorem azS{m:Int}(h:0<=m)(k i:Nat):tb (m*2^k) i=(decide (k<=i)&&tb m (i-k)):=by
 obtain⟨x,rfl⟩:=dB h
 unfold tb
 rw[←abX,←Int.natCast_mul,bP,bP,←Nat.shiftLeft_eq,Nat.testBit_shiftLeft]
theorem azB{m:Int}(h:0<=m)(k i:Nat):tb (m / 2^k) i=tb m (k+i):=by
 rw[awI h]
 unfold tb
 rw[bP,Nat.testBit_shiftRight]
theorem abJ{m:Int}{n i:Nat}(h:m<2^n)(hi:n<=i):tb m i=false:=by
 unfold tb
 refine Nat.testBit_lt_two_pow (aX ?_ (Nat.pow_le_pow_right (by decide) hi))
 by_cases h0:0<=m
 ·have:=abX n
  omega
 ·have:m.toNat=0:=by omega
  rw[this]
  exact Nat.two_pow_pos n
@[irreducible] noncomputable def mk_(p:Nat->Bool)(n:Nat):Int:=(cnt p n:Nat)
theorem aoY(p:Nat->Bool)(n:Nat):mk_ p n=(cnt p n:Nat):=by rw[mk_]
theorem axB(p:Nat->Bool)(n:Nat):0<=mk_ p n:=by rw[aoY];exact c5 _
theorem aB3(p:Nat->Bool):mk_ p 0=0:=by rw[aoY,al9];rfl
theorem awW(p:Nat->Bool)(n i:Nat):tb (mk_ p n) i=(decide (i<n)&&p i):=by
 unfold tb
 rw[aoY,bP,aw3]
theorem awJ(p:Nat->Bool)(n:Nat):mk_ p (n+1)=mk_ p n+(if p n=true then 2^n else 0):=by
 rw[aoY,aoY,alE,Int.natCast_add]
 split
 ·rw[abX]
 ·rfl
theorem azI(p:Nat->Bool)(n:Nat):mk_ p n<2^n:=by
 have:=at7 p n
 have e:=abX n
 rw[aoY]
 omega
theorem av8(n i:Nat):tb (2^n-1) i=decide (i<n):=by
 have h:=abX n
 have:((2:Int)^n-1).toNat=2^n-1:=by
  have:=Nat.two_pow_pos n
  omega
 unfold tb
 rw[this,Nat.testBit_two_pow_sub_one]
noncomputable def aGN(p:Nat->Bool)(lo:Int):Nat->List Int
 |0=>[]
 |n+1=>aGN p lo n++(if p n=true then [lo+(n:Int)] else [])
@[irreducible] noncomputable def flt(p:Nat->Bool)(lo:Int)(n:Nat):List Int:=aGN p lo n
theorem acI(p:Nat->Bool)(lo:Int):flt p lo 0=[]:=by rw[flt];rfl
theorem ao7{p:Nat->Bool}{lo:Int}{α:Type}{f:Int->α}:[]=(flt p lo 0).map f:=by rw[acI];rfl
theorem adS(p:Nat->Bool)(lo:Int)(n:Nat):flt p lo (n+1)=flt p lo n++(if p n=true then [lo+(n:Int)] else []):=by rw[flt,flt];rfl
theorem afQ{p:Nat->Bool}{lo:Int}{n:Nat}(h:p n=true):flt p lo (n+1)=flt p lo n++[lo+(n:Int)]:=by
 rw[adS,if_pos h]
theorem agU{p:Nat->Bool}{lo:Int}{n:Nat}(h:p n=false):flt p lo (n+1)=flt p lo n:=by
 rw[adS,h,if_neg aW,bS]
theorem arI(p:Nat->Bool)(lo:Int):∀n,(flt p lo n).length<=n
 |0=>by rw[acI];exact aO _
 |n+1=>by
  have h:=arI p lo n
  by_cases c:p n=true
  ·rw[afQ c,aP,bL];omega
  ·rw[agU (by simpa using c)];omega
theorem flt_mem{p:Nat->Bool}{lo z:Int}:∀{n:Nat},z∈flt p lo n↔∃i,i<n/\p i=true/\z=lo+(i:Int)
 |0=>by rw[acI];exact⟨fun h=>(nomatch h),fun ⟨i,h,_⟩=>absurd h (Nat.not_lt_zero i)⟩
 |n+1=>by
  by_cases c:p n=true
  ·rw[afQ c,bK,flt_mem,bG]
   refine⟨fun h=>?_,fun ⟨i,h1,h2,h3⟩=>?_⟩
   ·rcases h with ⟨i,h1,h2,h3⟩ | h
    ·exact⟨i,by omega,h2,h3⟩
    ·exact⟨n,by omega,c,h⟩
   ·by_cases e:i=n
    ·subst e;exact .inr h3
    ·exact .inl ⟨i,by omega,h2,h3⟩
  ·rw[agU (by simpa using c),flt_mem]
   refine⟨fun ⟨i,h1,h2,h3⟩=>⟨i,by omega,h2,h3⟩,fun ⟨i,h1,h2,h3⟩=>⟨i,?_,h2,h3⟩⟩
   have:i≠n:=fun e=>c (e▸h2)
   omega
theorem an9{p q:Nat->Bool}{lo:Int}:∀n,(∀i,i<n->p i=q i)->flt p lo n=flt q lo n
 |0,_=>by rw[acI,acI]
 |n+1,h=>by
  rw[adS,adS,an9 n fun i hi=>h i (by omega),h n (by omega)]
theorem ay2{p:Nat->Bool}{lo:Int}{n k:Nat}(h:∀i,n<=i->p i=false)(hk:n<=k):flt p lo k=flt p lo n:=by
 obtain⟨d,rfl⟩:=Nat.exists_eq_add_of_le hk
 clear hk
 induction d with
 |zero=>rfl
 |succ d ih=>rw[show n+(d+1)=(n+d)+1 from rfl,agU (h _ (by omega)),ih]
noncomputable def aa3(zs:List Int):Int:=zs.foldl (fun a z=>Builtin.bitOr a (1*2^z.toNat)) 0
theorem alP(zs:List Int)(z:Int):aa3 (zs++[z])=Builtin.bitOr (aa3 zs) (1*2^z.toNat):=by unfold aa3;rw[List.foldl_append];rfl
theorem arR:∀(zs:List Int) (a:Int),0<=a->0<=zs.foldl (fun a z=>Builtin.bitOr a (1*2^z.toNat)) a/\∀i,tb (zs.foldl (fun a z=>Builtin.bitOr a (1*2^z.toNat)) a) i=(tb a i||zs.any fun z=>decide (z.toNat=i))
 |[],a,h=>⟨h,fun i=>by simp⟩
 |z::zs,a,h=>by
  have e:(1*2^z.toNat:Int)=2^z.toNat:=by omega
  have p:=Int.le_of_lt (acF z.toNat)
  obtain⟨h1,h2⟩:=arR zs (Builtin.bitOr a (1*2^z.toNat)) (by rw[e];exact adD h p)
  refine⟨h1,fun i=>?_⟩
  show tb (zs.foldl _ (Builtin.bitOr a (1*2^z.toNat))) i=_
  rw[h2 i,e,ahE h p,aAK,bW,Bool.or_assoc]
theorem aaS(zs:List Int):0<=aa3 zs:=(arR zs 0 (aU 0)).1
theorem aa2(zs:List Int)(i:Nat):tb (aa3 zs) i=zs.any fun z=>decide (z.toNat=i):=by
 have h:=(arR zs 0 (aU 0)).2 i
 rw[abL,Bool.false_or] at h
 exact h
theorem awA{m:Int}(h:0<=m):m<2^Builtin.Int.intBits m:=by
 unfold Builtin.Int.intBits
 split
 ·rename_i c
  have:m=0:=by simpa using c
  rw[this]
  decide
 ·have:=Nat.lt_log2_self (n:=m.natAbs)
  have e:=abX (m.natAbs.log2+1)
  omega
theorem ak2{m:Int}{n:Nat}(h:0<=m)(hn:m<2^n):Builtin.Int.intBits m<=n:=by
 unfold Builtin.Int.intBits
 split
 ·exact aZ _
 ·rename_i c
  have h0:m≠0:=by simpa using c
  have e:=abX n
  have:m.natAbs.log2<n:=(Nat.log2_lt (by omega)).mpr (by omega)
  omega
noncomputable def atJ(m:Int):List Int:=flt (tb m) 0 (Builtin.Int.intBits m)
theorem aBZ{m:Int}{n:Nat}(h:0<=m)(hn:m<2^n):atJ m=flt (tb m) 0 n:=
 (ay2 (fun i hi=>abJ (awA h) hi) (ak2 h hn)).symm
theorem aCP{m:Int}(h:0<=m)(k:Nat):decide (Builtin.bitAnd (m / 2^k) 1=1)=tb m k:=by
 by_cases c:tb m k=true
 ·rw[c];exact dU ((acT h _).mpr c)
 ·have c':tb m k=false:=by simpa using c
  rw[c'];exact dY fun q=>c ((acT h _).mp q)
end L2
namespace L2
open PySem PyProof.Rows
theorem ad0(p:Nat->Bool)(lo:Int):∀n,(flt p lo n).Pairwise (·<·)
 |0=>by rw[acI];exact .nil
 |n+1=>by
  by_cases c:p n=true
  ·rw[afQ c,List.pairwise_append]
   refine⟨ad0 p lo n,List.pairwise_singleton _ _,fun a ha b hb=>?_⟩
   obtain⟨i,h1,_,rfl⟩:=flt_mem.mp ha
   have:b=lo+(n:Int):=by simpa using hb
   omega
  ·rw[agU (by simpa using c)]
   exact ad0 p lo n
noncomputable def pSt(m:Int)(i:Nat):Bool:=tb m i&& !(decide (1<=i)&&tb m (i-1))
noncomputable def aeJ(m:Int):Nat->List (Nat×Nat)->Prop
 |lo,[]=>∀j,lo<=j->tb m j=false
 |lo,(s,e)::r=>lo<=s/\(∀j,lo<=j->j<s->tb m j=false)/\s<=e/\(∀j,s<=j->j<=e->tb m j=true)/\tb m (e+1)=false/\aeJ m (e+2) r
noncomputable def anZ(m:Int)(s e:Nat):Prop:=s<=e/\(∀j,s<j->j<=e->tb m j=true)/\tb m (e+1)=false
theorem aoR{m:Int}{lo:Nat}(h0:lo=0∨tb m (lo-1)=false):∀j,lo<=j->tb m j=true->∃i,lo<=i/\i<=j/\pSt m i=true/\∀k,lo<=k->k<i->tb m k=false:=by
 intro j
 induction j using Nat.strongRecOn with
 |_ j ih=>
  intro hj hb
  by_cases c:∃k,lo<=k/\k<j/\tb m k=true
  ·obtain⟨k,k1,k2,k3⟩:=c
   obtain⟨i,i1,i2,r⟩:=ih k k2 k1 k3
   exact⟨i,i1,by omega,r⟩
  ·have hz:∀k,lo<=k->k<j->tb m k=false:=fun k k1 k2=>by
    cases z:tb m k
    ·rfl
    ·exact absurd ⟨k,k1,k2,z⟩ c
   refine⟨j,hj,aO _,?_,hz⟩
   unfold pSt
   rw[hb]
   by_cases e:lo=j
   ·subst e
    rcases h0 with z | z
    ·subst z;simp
    ·rw[z];simp
   ·by_cases e1:1<=j
    ·rw[hz (j-1) (by omega) (by omega)];simp
    ·simp[e1]
theorem ap8{m:Int}:∀(L:List Nat) (es:List Nat) (lo:Nat),(lo=0∨tb m (lo-1)=false)->L.Pairwise (·<·)->(∀j,lo<=j->(j∈L↔pSt m j=true))->(∀j∈L,lo<=j)->Paired (anZ m) L es->aeJ m lo (L.zip es)
 |[],_,lo,h0,_,hm,_,.nil=>fun j hj=>by
  cases z:tb m j
  ·rfl
  ·obtain⟨i,i1,_,i3,_⟩:=aoR h0 j hj z
   exact absurd ((hm i i1).mpr i3) (by simp)
 |s::L,e::es,lo,h0,hp,hm,hl,.cons ho hr=>by
  obtain⟨o1,o2,o3⟩:=ho
  have hs:=(hm s (hl s (by simp))).mp (by simp)
  have hbs:tb m s=true:=by unfold pSt at hs;rw[bE] at hs;exact hs.1
  have hpl:∀{j:Nat},j∈L->s<j:=fun {j} h=>List.rel_of_pairwise_cons hp h
  show lo<=s/\_/\_
  refine⟨hl s (by simp),fun j j1 j2=>?_,o1,fun j j1 j2=>?_,o3,?_⟩
  ·cases z:tb m j
   ·rfl
   ·obtain⟨i,i1,i2,i3,_⟩:=aoR h0 j j1 z
    have:=(hm i i1).mpr i3
    rcases aR.mp this with q | q
    ·omega
    ·have:=hpl q;omega
  ·by_cases e:s=j
   ·subst e;exact hbs
   ·exact o2 j (by omega) j2
  ·have hin:∀j∈L,e+2<=j:=fun j hj=>by
    have h1:=hpl hj
    have h2:=(hm j (by have:=hl s (by simp);omega)).mp (by simp[hj])
    unfold pSt at h2
    rw[bE] at h2
    rcases cA j (e+2) with z | z
    ·rcases cA e j with y | y
     ·have:j=e+1:=by omega
      subst this
      rw[o3] at h2
      exact absurd h2.1 aW
     ·have h3:tb m (j-1)=true:=by
       by_cases q:s=j-1
       ·rw[←q];exact hbs
       ·exact o2 _ (by omega) (by omega)
      rw[h3,dU (show 1<=j by omega)] at h2
      exact absurd h2.2 (by decide)
    ·exact z
   refine ap8 L es (e+2) (.inr o3) (List.Pairwise.of_cons hp) (fun j hj=>?_) hin hr
   rw[←hm j (by have:=hl s (by simp);omega),aR]
   refine⟨fun h=>.inr h,fun h=>?_⟩
   rcases h with h | h
   ·omega
   ·exact h
section
variable{X:Cx}{tg:Expr}
theorem awR{a b c:Int}(hc:0<c):0<=Builtin.Range.rangeSize a b c:=by
 unfold Builtin.Range.rangeSize
 rw[if_pos hc]
 split
 ·have:0<=(b-a-1) / c:=Int.ediv_nonneg (by omega) (by omega)
  omega
 ·exact aU 0
end
noncomputable def azW(a:Addr)(lo hi st:Int):HO:=.ext fun h=>∃t u v,h.get? a=some {cls:=.type "range",data:=.fields #[.int lo t,.int hi u,.int st v]}
section
variable{X:Cx}
theorem asD{pins:List (Addr×Obj)}{σ:St}{H:Hp}{s:Shared}{Q:VK}{lo hi st:Int}{t u v:Tok}{tk:Nat}(I:Inv X pins σ H s)(q:∀p,H p=none->Q (.ref p) (upd H p (azW p lo hi st))):
  EP X pins σ Q (.ref s.heap.objs.size) {s with heap:=s.heap.push {cls:=.type "range",data:=.fields #[.int lo t,.int hi u,.int st v]},toks:=tk}:=by
 refine⟨.ref s.heap.objs.size,upd H s.heap.objs.size (azW s.heap.objs.size lo hi st),I.laid (t':=tk) (fun b u e=>aS _ e) (aO _) ?_,rfl,q _ (I.hok.fresh (aO _))⟩
 have e:=bC s.heap (o:={cls:=.type "range",data:=.fields #[.int lo t,.int hi u,.int st v]}) rfl
 exact⟨⟨t,u,v,e⟩,⟨_,e⟩,fun h1 h2 ⟨t,u,v,z⟩ k=>⟨t,u,v,k _ z⟩⟩
theorem aD4:Cl1 X (.type "range") (fun xs H Q=>∃i j,xs=[.int i,.int j]/\∀p,H p=none->Q (.ref p) (upd H p (azW p i j 1))):=by
 refine⟨fun pins s σ H xs us Q I r h=>?_⟩
 obtain⟨i,j,rfl,q⟩:=h
 obtain⟨u,u',rfl,⟨t,rfl⟩,⟨t',rfl⟩⟩:=ar4 r
 exact call_range_2 (asD I q)
theorem aA0:Cl1 X (.type "range") (fun xs H Q=>∃i j c,xs=[.int i,.int j,.int c]/\(0<c/\c<1073741824)/\∀p,H p=none->Q (.ref p) (upd H p (azW p i j c))):=by
 refine⟨fun pins s σ H xs us Q I r h=>?_⟩
 obtain⟨i,j,c,rfl,⟨c0,c1⟩,q⟩:=h
 cases r with
 |cons r rr=>
  cases rr with
  |cons r' rr=>
   cases rr with
   |cons r'' rr=>
    cases rr
    obtain⟨t,rfl⟩:=r
    obtain⟨t',rfl⟩:=r'
    obtain⟨t'',rfl⟩:=r''
    exact call_range_3 (Int.ne_of_gt c0) (asD I q) (.inl (PyProof.noPylong_small (by omega)))
theorem avF{lo st:Int}:∀{n:Nat} {acc:Array Value},ItemsOf (fun i v=>∃t,v=.int (lo+i*st) t) acc n->Vals ((List.range n).map fun i:Nat=>V.int (lo+i*st)) acc.toList:=by
 intro n acc h
 obtain⟨hz,hi⟩:=h
 have key:∀(m:Nat),m<=n->Vals ((List.range m).map fun i:Nat=>V.int (lo+i*st)) (acc.toList.take m):=by
  intro m
  induction m with
  |zero=>intro _;exact .nil
  |succ m ih=>
   intro hm
   have hlt:m<acc.toList.length:=by rw[bT];omega
   obtain⟨t,e⟩:=hi m acc.toList[m] (by rw[←cE];exact bU hlt)
   rw[List.range_succ,aT,bI,bU hlt]
   exact (ih (by omega)).append (.cons ⟨t,e⟩ .nil)
 have:=key n (aO _)
 rwa [dG (by rw[bT];omega)] at this
theorem cLR(hc:X.calm=true:=by rfl):Cl1 X (.type "list") (fun xs H Q=>∃(p:Addr) (lo hi st:Int) (n:Nat),xs=[.ref p]/\H p=some (azW p lo hi st)/\Builtin.Range.small lo hi st=true/\Builtin.Range.rangeSize lo hi st=(n:Int)/\n<=100000/\
  ∀l,H l=none->Q (.ref l) (upd H l (.lst ((List.range n).map fun i:Nat=>V.int (lo+i*st))))):=by
 refine⟨fun pins s σ H xs us Q I r h=>?_⟩
 obtain⟨p,lo,hi,st,n,rfl,hp,hs,hn,hl,q⟩:=h
 obtain⟨u,rfl,rx⟩:=acE r
 cases rx
 obtain⟨⟨t,u,v,e⟩,_,_⟩:=I.hok p _ hp
 refine call_list_range (I.ok.hd hc) e hs hn (bJ hl (by decide)) fun h' tk acc c' kp hS hI=>?_
 have hz:((List.range n).map fun i:Nat=>V.int (lo+i*st)).length<=sizeLine:=by
  rw[aM,cL,dQ]
  omega
 exact⟨.ref s.heap.objs.size,_,I.laid (t':=tk) kp (aO _) (show ObjOk X.prog X.w _ h' _ (.lst _) from ⟨hz,acc.toList,c',avF hI,by simpa using hS⟩),rfl,q _ (I.hok.fresh (aO _))⟩
noncomputable def rBL:V->List V->Hp->VK->Prop:=fun x vs H Q=>∃i,x=.int i/\vs=[]/\Q (.int (Builtin.Int.intBits i:Nat)) H
theorem aLE:MtR X "int.bit_length" rBL:=by
 intro pins s σ H x xs v us Q I rx rv h
 obtain⟨i,rfl,rfl,q⟩:=h
 cases rv
 obtain⟨t,rfl⟩:=rx
 exact call_int_bit_length ⟨.int _,H,I.tok _,⟨_,rfl⟩,q⟩
theorem eBL{o:Expr}{to:TE}{apos cpos:Pos}(ho:E X o to)(hbase:attributeBase o "bit_length" X.env (eval o X.env)=eval o X.env:=by rfl)(hline:(apos.endLine==cpos.line)=true:=by rfl):
  E X (.Call (.Attribute o "bit_length" apos) [] [] cpos) (aL9 X.K "int" rBL to):=⟨aEW PySem.F.plainAttrs_int PySem.F.slot_int_bit_length PySem.F.type_int_bit_length aLE ho.h hbase hline⟩
theorem afI:Op2 X (compareOp .Is) (fun x y H Q=>y=.non/\Q (.bl (decide (x=.non))) H):=⟨aE0⟩
theorem aDG:Op2 X (compareOp .IsNot) (fun x y H Q=>y=.non/\Q (.bl (!decide (x=.non))) H):=⟨aC1⟩
theorem oIn:Op2 X (compareOp .In) (rIn X.K false):=⟨axC⟩
theorem aDZ:Op2 X (compareOp .NotIn) (rIn X.K true):=⟨ao5⟩
theorem av9(z:Int):∀zs:List Int,inV (.int z) (zs.map V.int)=zs.any (fun y=>decide (y=z))
 |[]=>rfl
 |y::r=>by
  show (eqV (.int y) (.int z)||inV (.int z) (r.map V.int))=(decide (y=z)||r.any _)
  rw[av9 z r]
  congr 1
theorem anV(zs:List Int):(zs.map V.int).all aeR=true:=by
 rw[List.all_map]
 exact bX.mpr fun _ _=>rfl
end
theorem Same.none{H H':Hp}{D:Addr}(s:Same H H')(h:H' D=none):H D=none:=by
 cases e:H D with
 |none=>rfl
 |some o=>exact absurd (h.symm.trans (s _ _ e)) (by simp)
noncomputable def Keep(H H':Hp):Prop:=∀b o,(∀xs,o≠ .lst xs)->H b=some o->H' b=some o
theorem Same.keep{H H':Hp}(s:Same H H'):Keep H H':=fun b o _ h=>s b o h
theorem Keep.trans{H H1 H2:Hp}(a:Keep H H1)(b:Keep H1 H2):Keep H H2:=fun c o n h=>b c o n (a c o n h)
theorem ab3{H:Hp}{D:Addr}{l l':List V}(h:H D=some (.lst l)):Keep H (upd H D (.lst l')):=fun b o n hb=>by
 by_cases e:b=D
 ·subst e
  rw[h] at hb
  cases hb
  exact absurd rfl (n l)
 ·rw[aaH e]
  exact hb
theorem Keep.tup{H H':Hp}(k:Keep H H'){b:Addr}{xs:List V}(h:H b=some (.tup xs)):H' b=some (.tup xs):=k b _ (fun _ z=>nomatch z) h
theorem Keep.ins{H H':Hp}(k:Keep H H'){b C dx:Addr}{fs:List (Str×V)}(h:H b=some (.ins C dx fs)):H' b=some (.ins C dx fs):=k b _ (fun _ z=>nomatch z) h
section
variable{js:List Nat}{σ:St}{tt:TT}{te:TE}{Q:VK}{H1:Hp}
theorem avI{K:FG}{a:Addr}{xs:List V}(R:Nat->List V->Hp->Prop)(hm:∀i l H H',Keep H H'->R i l H->R i l H')(hn:xs.length<=sizeLine)(h0:R 0 [] H1)(hq:SqL K H1 a xs)
  (hs:∀(i:Nat) (v:V) (l:List V) (D:Addr) (H2:Hp) (E:V->Hp->Prop) (F:Hp->Prop),xs[i]? =some v->R i l H2->H1 D=none->Same H1 H2->H2 D=some (.lst l)->(∀y H5,Same H2 H5->R (i+1) (l++[y]) H5->E y H5)->(∀H4,Same H2 H4->R (i+1) l H4->F H4)->
   tt (some v::aaW js σ) H2 fun b H4=>if b=true then te (some v::aaW js σ) H4 E else F H4)
  (hd:∀(D:Addr) (H2:Hp) (l:List V),R xs.length l H2->H1 D=none->Same H1 H2->H2 D=some (.lst l)->Q (.ref D) H2):asX (Itl K a) js σ tt te Q H1:=by
 intro D hD
 refine⟨fun i m H2=>m=xs.length-i/\i<=xs.length/\Same H1 H2/\∃l,H2 D=some (.lst l)/\l.length<=i/\R i l H2,⟨xs.length,by simp,aZ _,aaB hD _,[],aaA,aO _,hm _ _ _ _ (aaB hD _).keep h0⟩,?_⟩
 rintro i m H2 ⟨rfl,hi,s2,l,h2,hll,hR⟩
 by_cases hlt:i<xs.length
 ·refine .inr ⟨⟨xs,xs[i],s2.seq hq,by simp[hlt]⟩,fun v H3 y=>?_⟩
  obtain⟨e,ev⟩:=y
  subst e
  have hv:=ev xs (s2.seq hq)
  refine hs i v l D _ _ _ hv hR hD s2 h2 (fun z H5 s5 r5=>?_) (fun H4 s4 r4=>?_)
  ·refine⟨l,s5 _ _ h2,dA hll (aX hlt hn),xs.length-(i+1),by omega,rfl,hlt,fun b o hb=>?_,l++[z],aaA,by rw[aP,bL];omega,hm _ _ _ _ (ab3 (s5 _ _ h2)) r5⟩
   rw[aaH (aaL hb hD)]
   exact s5 _ _ (s2 _ _ hb)
  ·exact⟨xs.length-(i+1),by omega,rfl,hlt,s2.trans s4,l,s4 _ _ h2,by omega,r4⟩
 ·have e:i=xs.length:=by omega
  subst e
  exact .inl ⟨⟨xs,s2.seq hq,aO _⟩,hd D H2 l hR hD s2 h2⟩
end
section
variable{X:Cx}{K:FG}
theorem xTc(hK:X.K=K:=by rfl):Ixs X (aFT K):=hK▸xT
end
inductive Kd where
 |int | bool | str | non | list | tuple | dict
noncomputable def Kd.nm:Kd->String
 |.int=>"int" | .bool=>"bool" | .str=>"str" | .non=>"NoneType" | .list=>"list" | .tuple=>"tuple" | .dict=>"dict"
noncomputable def Kd.isa:Kd->Kd->Bool
 |.int,.int=>true | .bool,.int=>true | .bool,.bool=>true | .str,.str=>true | .list,.list=>true | .tuple,.tuple=>true | .dict,.dict=>true | _,_=>false
noncomputable def aJ1(K:FG)(H:Hp):V->Kd->Prop
 |.int _,k=>k=.int
 |.bl _,k=>k=.bool
 |.str _,k=>k=.str
 |.non,k=>k=.non
 |.ref a,k=>(k=.list/\∃xs,SqL K H a xs)∨(k=.tuple/\∃xs,SqT K H a xs)∨(k=.dict/\∃kvs,H a=some (.dK kvs))
 |_,_=>False
theorem cIs{X:Cx}:Cl1 X (.builtin "isinstance") (fun xs H Q=>∃(v:V) (n k:Kd),xs=[v,.ty n.nm]/\n.nm≠"NoneType"/\aJ1 X.K H v k/\Q (.bl (Kd.isa k n)) H):=by
 refine⟨fun pins s σ H xs us Q I r h=>?_⟩
 obtain⟨v,n,k,rfl,hn,hk,q⟩:=h
 obtain⟨u,w',rfl,r1,r2⟩:=ar4 r
 cases r2
 have fin:∀tk,EP X pins σ Q (.bool (Kd.isa k n)) {s with toks:=tk}:=fun tk=>⟨.bl _,H,I.tok _,rfl,q⟩
 have fin0:EP X pins σ Q (.bool (Kd.isa k n)) s:=⟨.bl _,H,I,rfl,q⟩
 cases v with
 |int i=>
  obtain⟨t,rfl⟩:=r1
  cases (show k=Kd.int from hk)
  cases n with
  |int=>exact PySem.IsiPair.int_int fin0
  |bool=>exact PySem.IsiPair.int_bool (fin _)
  |str=>exact PySem.IsiPair.int_str (fin _)
  |list=>exact PySem.IsiPair.int_list (fin _)
  |tuple=>exact PySem.IsiPair.int_tuple (fin _)
  |dict=>exact PySem.IsiPair.int_dict (fin _)
  |non=>exact absurd rfl hn
 |bl b=>
  cases r1
  cases (show k=Kd.bool from hk)
  cases n with
  |int=>exact PySem.IsiPair.bool_int fin0
  |bool=>exact PySem.IsiPair.bool_bool fin0
  |str=>exact PySem.IsiPair.bool_str (fin _)
  |list=>exact PySem.IsiPair.bool_list (fin _)
  |tuple=>exact PySem.IsiPair.bool_tuple (fin _)
  |dict=>exact PySem.IsiPair.bool_dict (fin _)
  |non=>exact absurd rfl hn
 |str x=>
  obtain⟨t,rfl⟩:=r1
  cases (show k=Kd.str from hk)
  cases n with
  |int=>exact PySem.IsiPair.str_int (fin _)
  |bool=>exact PySem.IsiPair.str_bool (fin _)
  |str=>exact PySem.IsiPair.str_str fin0
  |list=>exact PySem.IsiPair.str_list (fin _)
  |tuple=>exact PySem.IsiPair.str_tuple (fin _)
  |dict=>exact PySem.IsiPair.str_dict (fin _)
  |non=>exact absurd rfl hn
 |non=>
  cases r1
  cases (show k=Kd.non from hk)
  cases n with
  |int=>exact PySem.IsiPair.NoneType_int (fin _)
  |bool=>exact PySem.IsiPair.NoneType_bool (fin _)
  |str=>exact PySem.IsiPair.NoneType_str (fin _)
  |list=>exact PySem.IsiPair.NoneType_list (fin _)
  |tuple=>exact PySem.IsiPair.NoneType_tuple (fin _)
  |dict=>exact PySem.IsiPair.NoneType_dict (fin _)
  |non=>exact absurd rfl hn
 |ref a=>
  cases r1
  rcases hk with ⟨rfl,ys,hq⟩ | ⟨rfl,ys,hq⟩ | ⟨rfl,kvs,hq⟩
  ·obtain⟨its,rv,pl,_⟩:=I.list hq
   obtain⟨o,ho,hc,_⟩:=pl.isList
   cases n with
   |int=>exact PySem.IsiPair.list_int ho hc (fin _)
   |bool=>exact PySem.IsiPair.list_bool ho hc (fin _)
   |str=>exact PySem.IsiPair.list_str ho hc (fin _)
   |list=>exact PySem.IsiPair.list_list ho hc fin0
   |tuple=>exact PySem.IsiPair.list_tuple ho hc (fin _)
   |dict=>exact PySem.IsiPair.list_dict ho hc (fin _)
   |non=>exact absurd rfl hn
  ·obtain⟨its,rv,⟨o,ho,hc,_⟩,_⟩:=I.tuple hq
   cases n with
   |int=>exact PySem.IsiPair.tuple_int ho hc (fin _)
   |bool=>exact PySem.IsiPair.tuple_bool ho hc (fin _)
   |str=>exact PySem.IsiPair.tuple_str ho hc (fin _)
   |list=>exact PySem.IsiPair.tuple_list ho hc (fin _)
   |tuple=>exact PySem.IsiPair.tuple_tuple ho hc fin0
   |dict=>exact PySem.IsiPair.tuple_dict ho hc (fin _)
   |non=>exact absurd rfl hn
  ·obtain⟨_,_,_,_,o,_,_,ho,ex,_⟩:=I.hok a _ hq
   cases n with
   |int=>exact PySem.IsiPair.dict_int ho ex.1 (fin _)
   |bool=>exact PySem.IsiPair.dict_bool ho ex.1 (fin _)
   |str=>exact PySem.IsiPair.dict_str ho ex.1 (fin _)
   |list=>exact PySem.IsiPair.dict_list ho ex.1 (fin _)
   |tuple=>exact PySem.IsiPair.dict_tuple ho ex.1 (fin _)
   |dict=>exact PySem.IsiPair.dict_dict ho ex.1 fin0
   |non=>exact absurd rfl hn
 |byt b=>exact False.elim hk
 |flt b=>exact False.elim hk
 |ty n=>exact False.elim hk
end L2
namespace L2
open PySem PySem.Spec PyProof.Rows PySem.Builtin PySem.Builtin.Str
noncomputable abbrev Tx(l:List Nat):Str:=⟨l.toArray⟩
theorem Tx_inj{a b:List Nat}:Tx a=Tx b↔a=b:=⟨fun h=>by
 have:(Tx a).cps.toList=(Tx b).cps.toList:=by rw[h]
 simpa using this,fun h=>by rw[h]⟩
theorem azJ(x:Str):Tx x.cps.toList=x:=by cases x;simp
theorem abC(a:List Nat):(Tx a).length=a.length:=by simp[Str.length]
noncomputable def Itx(x:Str):It:=⟨fun i _=>i<x.cps.size,fun i H v H'=>H'=H/\∃c,x.cps[i]? =some c/\v=.str ⟨#[c]⟩,fun i _=>i=x.cps.size⟩
theorem ax5{P:Program}{w:World}{K:FG}{tg:Expr}(x:Str)(t:Tok)(it:Addr):Turn P w K tg (Itx x) [it] it (fun i h=>h.IsStrIter it "str_ascii_iterator" x t i) where
 mem:=by simp
 obj:=fun i h st b hb=>by
  have e:b=it:=by simpa using hb
  subst e
  obtain⟨o,e,c,d⟩:=st
  exact⟨o,e,fun v z=>by rw[d] at z;cases z⟩
 keep:=fun i h h' st k=>by
  obtain⟨o,e,r⟩:=st
  exact⟨o,k it (by simp) o e,r⟩
 item:=by
  intro X hP hw hK hc i pins s σ H E I hf st hg
  subst hP hw hK
  obtain⟨f0,f1,f2,f3,f4,f5⟩:=hf it (by simp)
  have hg:i<x.cps.size:=hg
  refine wpAny_pyNext_ascii_item st (c:=x.cps[i]) (by simp[hg]) fun h' st' sb=>?_
  have I1:Inv X pins σ H {s with heap:=h',toks:=s.toks+1}:=I.turned (fun b o hb e=>sb.extBut b o hb e) f0 f1 f3 f4 f5
  obtain⟨o,e,c,d⟩:=id st'
  exact⟨_,rfl,arX (s:={s with heap:=h',toks:=s.toks+1}) e c d (by decide) ⟨.str ⟨#[x.cps[i]]⟩,H,I1,⟨_,rfl⟩,⟨rfl,x.cps[i],by simp[hg],rfl⟩,st',fun b hb=>(hf b hb).1⟩⟩
 done:=by
  intro X hP hw hK hc i pins s σ H E I hf st hg
  subst hP hw hK
  obtain⟨f0,f1,f2,f3,f4,f5⟩:=hf it (by simp)
  have hg:i=x.cps.size:=hg
  exact wpAny_pyNext_ascii_end (I.ok.hd hc) st (by simp[hg]) fun h' eb=>⟨rfl,I.turned (t':=s.toks) (fun b o hb e=>eb b o hb e) f0 f1 f3 f4 f5⟩
 self:=fun _ _ _ _ _ st h=>wpAny_pyIter_striter_ascii st h
theorem axV{P:Program}{w:World}{K:FG}{tg:Expr}(x:Str)(t:Tok)(it:Addr):Turn P w K tg (Itx x) [it] it (fun i h=>h.IsStrIter it "str_iterator" x t i) where
 mem:=by simp
 obj:=fun i h st b hb=>by
  have e:b=it:=by simpa using hb
  subst e
  obtain⟨o,e,c,d⟩:=st
  exact⟨o,e,fun v z=>by rw[d] at z;cases z⟩
 keep:=fun i h h' st k=>by
  obtain⟨o,e,r⟩:=st
  exact⟨o,k it (by simp) o e,r⟩
 item:=by
  intro X hP hw hK hc i pins s σ H E I hf st hg
  subst hP hw hK
  obtain⟨f0,f1,f2,f3,f4,f5⟩:=hf it (by simp)
  have hg:i<x.cps.size:=hg
  refine wpAny_pyNext_wide_item st (c:=x.cps[i]) (by simp[hg]) fun h' st' sb=>?_
  have I1:Inv X pins σ H {s with heap:=h',toks:=s.toks+1}:=I.turned (fun b o hb e=>sb.extBut b o hb e) f0 f1 f3 f4 f5
  obtain⟨o,e,c,d⟩:=id st'
  exact⟨_,rfl,arX (s:={s with heap:=h',toks:=s.toks+1}) e c d (by decide) ⟨.str ⟨#[x.cps[i]]⟩,H,I1,⟨_,rfl⟩,⟨rfl,x.cps[i],by simp[hg],rfl⟩,st',fun b hb=>(hf b hb).1⟩⟩
 done:=by
  intro X hP hw hK hc i pins s σ H E I hf st hg
  subst hP hw hK
  obtain⟨f0,f1,f2,f3,f4,f5⟩:=hf it (by simp)
  have hg:i=x.cps.size:=hg
  exact wpAny_pyNext_wide_end (I.ok.hd hc) st (by simp[hg]) fun h' eb=>⟨rfl,I.turned (t':=s.toks) (fun b o hb e=>eb b o hb e) f0 f1 f3 f4 f5⟩
 self:=fun _ _ _ _ _ st h=>wpAny_pyIter_striter_wide st h
section
variable{X:Cx}{tg:Expr}
noncomputable def iTxt(tl:TE):TI:=fun σ H R=>tl σ H fun x H1=>∃z,x=.str z/\R (Itx z) H1
theorem iX{l:Expr}{tl:TE}(hl:E X l tl):Il X tg l (iTxt tl):=by
 refine⟨fun pins s σ H R I h=>?_⟩
 refine thn (hl.h pins s σ H _ I h) fun u s1 ⟨x,H1,I1,r1,q1⟩=>?_
 obtain⟨z,rfl,q⟩:=q1
 obtain⟨t,rfl⟩:=r1
 have fp:∀b∈[s1.heap.objs.size],adY X pins H1 b:=fun b hb=>by
  have e:b=s1.heap.objs.size:=by simpa using hb
  subst e
  exact I1.fpOk (aO _) (I1.hok.fresh (aO _))
 cases ha:z.cps.all (·<128)
 ·exact wpAny_pyIter_wide ha ⟨s1.heap.objs.size,[s1.heap.objs.size],_,_,H1,rfl,I1.kept (t':=s1.toks) fun b o e=>aS _ e,axV z t _,⟨_,bC _ rfl,rfl,rfl⟩,fp,q⟩
 ·exact wpAny_pyIter_ascii ha ⟨s1.heap.objs.size,[s1.heap.objs.size],_,_,H1,rfl,I1.kept (t':=s1.toks) fun b o e=>aS _ e,ax5 z t _,⟨_,bC _ rfl,rfl,rfl⟩,fp,q⟩
end
section
variable{js:List Nat}{σ:St}{tt:TT}{te:TE}{Q:VK}{H1:Hp}
theorem azO{xs:List Nat}(R:Nat->List V->Prop)(hn:xs.length<=sizeLine)(h0:R 0 [])
  (hs:∀(i:Nat) (c:Nat) (l:List V) (D:Addr) (H2:Hp) (E:V->Hp->Prop) (F:Hp->Prop),xs[i]? =some c->R i l->H1 D=none->Same H1 H2->H2 D=some (.lst l)->(∀y H5,Same H2 H5->R (i+1) (l++[y])->E y H5)->(∀H4,Same H2 H4->R (i+1) l->F H4)->
   tt (some (.str (Tx [c]))::aaW js σ) H2 fun b H4=>if b=true then te (some (.str (Tx [c]))::aaW js σ) H4 E else F H4)
  (hd:∀(D:Addr) (H2:Hp) (l:List V),R xs.length l->H1 D=none->Same H1 H2->H2 D=some (.lst l)->Q (.ref D) H2):asX (Itx (Tx xs)) js σ tt te Q H1:=by
 intro D hD
 have hz:(Tx xs).cps.size=xs.length:=by simp
 refine⟨fun i m H2=>m=xs.length-i/\i<=xs.length/\Same H1 H2/\∃l,H2 D=some (.lst l)/\l.length<=i/\R i l,⟨xs.length,by simp,aZ _,aaB hD _,[],aaA,aO _,h0⟩,?_⟩
 rintro i m H2 ⟨rfl,hi,s2,l,h2,hll,hR⟩
 by_cases hlt:i<xs.length
 ·refine .inr ⟨show i<(Tx xs).cps.size by rw[hz];exact hlt,fun v H3 y=>?_⟩
  obtain⟨e,c,ec,ev⟩:=y
  subst e ev
  refine hs i c l D _ _ _ (by simpa using ec) hR hD s2 h2 (fun z H5 s5 r5=>?_) (fun H4 s4 r4=>?_)
  ·refine⟨l,s5 _ _ h2,dA hll (aX hlt hn),xs.length-(i+1),by omega,rfl,hlt,fun b o hb=>?_,l++[z],aaA,by rw[aP,bL];omega,r5⟩
   rw[aaH (aaL hb hD)]
   exact s5 _ _ (s2 _ _ hb)
  ·exact⟨xs.length-(i+1),by omega,rfl,hlt,s2.trans s4,l,s4 _ _ h2,by omega,r4⟩
 ·have e:i=xs.length:=by omega
  subst e
  exact .inl ⟨show xs.length=(Tx xs).cps.size by rw[hz],hd D H2 l hR hD s2 h2⟩
end
section
variable{X:Cx}
theorem atR{prog:Program}{w:World}{A:Around}{its:Array Value}{bs:List Bool}(r:Vals (bs.map V.bl) its.toList):TruthOf prog w A (fun i v=>its[i]? =some v) (fun i=>bs.getD i false):=by
 intro i v s Q E hv hq
 have hv':its.toList[i]? =some v:=by rw[cE];exact hv
 have hi:i<bs.length:=by
  have h1:=r.length
  rw[aM] at h1
  rcases cA i its.toList.length with z | z
  ·omega
  ·rw[List.getElem?_eq_none z] at hv';cases hv'
 obtain⟨u,hu,ru⟩:=r.get (i:=i) (x:=V.bl bs[i]) (by rw[aY,bU hi];rfl)
 rw[hv'] at hu
 cases hu
 cases ru
 have e:bs.getD i false=bs[i]:=by simp[List.getD,bU hi]
 have hq:Q (bs.getD i false) s:=hq
 rw[e] at hq
 exact eE hq
theorem axK(bs:List Bool):(List.range bs.length).all (fun i=>bs.getD i false)=bs.all id:=by
 rw[b7,bX,bX]
 refine⟨fun h b hb=>?_,fun h i hi=>?_⟩
 ·obtain⟨i,hi,e⟩:=List.getElem_of_mem hb
  have:=h i (cQ.mpr hi)
  rw[show bs.getD i false=bs[i] by simp[List.getD,bU hi],e] at this
  exact this
 ·have hi:=cQ.mp hi
  rw[show bs.getD i false=bs[i] by simp[List.getD,bU hi]]
  exact h _ (List.getElem_mem hi)
theorem cAll(hc:X.calm=true:=by rfl):Cl1 X (.builtin "all") (fun xs H Q=>∃(p:Addr) (bs:List Bool),xs=[.ref p]/\SqL X.K H p (bs.map V.bl)/\Q (.bl (bs.all id)) H):=by
 refine⟨fun pins s σ H xs us Q I r h=>?_⟩
 obtain⟨p,bs,rfl,hq,q⟩:=h
 obtain⟨u,rfl,r1⟩:=acE r
 cases r1
 obtain⟨its,rv,pl,hz⟩:=I.list hq
 have hne:p≠s.heap.objs.size:=by
  obtain⟨o,ho,_⟩:=pl.isList
  exact aV (aQ ho)
 refine call_all_walk (wpAny_pyIter_list pl.isList ⟨s.heap.objs.size,[s.heap.objs.size,p],[s.heap.objs.size],its.toArray.size,(fun i v=>its.toArray[i]? =some v),(fun i h=>h.IsListIter s.heap.objs.size p i/\h.IsList p its.toArray),(fun i=>bs.getD i false),rfl,Walks.list (prog:=X.prog) (w:=X.w) (A:=X.A.in1) (I.ok.hd hc) _ p hne its.toArray,⟨⟨_,bC _ rfl,rfl,rfl⟩,pl.isList.push _⟩,atR (by simpa using rv),fun h' tk hk=>?_⟩)
 have hl:=rv.length
 rw[aM] at hl
 have e:its.toArray.size=bs.length:=by rw[bN];omega
 rw[e,axK]
 exact⟨.bl _,H,I.kept fun b o eb=>hk b o (by simpa using aV (aQ eb)) (aS _ eb),rfl,q⟩
end
end L2
namespace L2
open PySem PySem.Spec PyProof.Rows PySem.Builtin PySem.Builtin.Str
noncomputable def spl(c:Nat):List Nat->List (List Nat)
 |[]=>[[]]
 |x::r=>if x=c then []::spl c r else match spl c r with
  |h::t=>(x::h)::t
  |[]=>[[x]]
noncomputable def aaK(c:Nat):List (List Nat)->List Nat
 |[]=>[]
 |[p]=>p
 |p::r=>p++c::aaK c r
theorem aEX(c:Nat):∀l,spl c l≠[]
 |[]=>by simp[spl]
 |x::r=>by
  unfold spl
  split
  ·simp
  ·split<;>simp
theorem adO(c:Nat):∀(p:List Nat),c∉p->spl c p=[p]
 |[],_=>rfl
 |x::r,h=>by
  have h1:¬x=c:=fun e=>h (by simp[e])
  have h2:=adO c r fun e=>h (by simp[e])
  unfold spl
  rw[if_neg h1,h2]
theorem akZ(c:Nat):∀(p r:List Nat),c∉p->spl c (p++c::r)=p::spl c r
 |[],r,_=>by
  show spl c (c::r)=_
  unfold spl
  rw[if_pos rfl]
  cases r<;>rfl
 |x::q,r,h=>by
  have h1:¬x=c:=fun e=>h (by simp[e])
  have h2:=akZ c q r fun e=>h (by simp[e])
  show spl c (x::(q++c::r))=_
  rw[spl,if_neg h1,h2]
theorem acG(c:Nat):∀(ps:List (List Nat)),ps≠[]->(∀p∈ps,c∉p)->spl c (aaK c ps)=ps
 |[],h,_=>absurd rfl h
 |[p],_,h=>adO c p (h p (by simp))
 |p::q::r,_,h=>by
  show spl c (p++c::aaK c (q::r))=_
  rw[akZ c p _ (h p (by simp)),acG c (q::r) (by simp) fun z hz=>h z (bD _ hz)]
theorem arH(c:Nat):∀ps:List Str,(Str.join (Tx [c]) ps).cps.toList=aaK c (ps.map (·.cps.toList))
 |[]=>rfl
 |[p]=>rfl
 |p::q::r=>by
  have ih:=arH c (q::r)
  show (p++Tx [c]++Str.join (Tx [c]) (q::r)).cps.toList=p.cps.toList++c::aaK c ((q::r).map (·.cps.toList))
  rw[←ih]
  show ((p.cps++ #[c])++(Str.join (Tx [c]) (q::r)).cps).toList=_
  simp
theorem azT(x y:Str)(h:Txt.split x y=[]):False:=by
 unfold Txt.split at h
 split at h
 ·cases h
 ·split at h
  ·cases h
  ·have e:=congrArg List.length h
   rw[length_partsBetween] at e
   simp at e
theorem aAZ(l:List Nat)(c:Nat):(Txt.split (Tx l) (Tx [c])).map (·.cps.toList)=spl c l:=by
 have h1:=StrLaws.join_split (Tx l) (Tx [c])
 have h2:=StrLaws.split_free (Tx l) c
 have h3:=arH c (Txt.split (Tx l) (Tx [c]))
 rw[h1] at h3
 have e:aaK c ((Txt.split (Tx l) (Tx [c])).map (·.cps.toList))=l:=by rw[←h3]
 rw[←acG c ((Txt.split (Tx l) (Tx [c])).map (·.cps.toList)) (fun z=>azT _ _ (cW.mp z)) ?_,e]
 intro p hp
 obtain⟨z,hz,rfl⟩:=a9.mp hp
 exact h2 z hz
theorem ayE(l:List Nat)(c:Nat):Txt.split (Tx l) (Tx [c])=(spl c l).map Tx:=by
 rw[←aAZ,bM]
 have:∀ps:List Str,ps=ps.map ((fun w:List Nat=>Tx w) ∘ fun x=>x.cps.toList):=fun ps=>by
  induction ps with
  |nil=>rfl
  |cons a r ih=>rw[bR,←ih];simp
 exact this _
theorem aoK:∀l:List (Str×Tok),Vals (l.map fun p=>V.str p.1) (strValues l)
 |[]=>.nil
 |p::r=>.cons ⟨p.2,rfl⟩ (aoK r)
section
variable{prog:Program}{w:World}{A:Around}{E:Value->Shared->Prop}{s:Shared}{x y:Str}{t u:Tok}{Q:Value->Shared->Prop}
theorem auS(hy:(y.length==0)=false)(hsz:x.length+2<=sizeLine)
  (h:∀l k,l.map (·.1)=Txt.split x y->Q (.ref s.heap.objs.size) {s with heap:=s.heap.push {cls:=.type "list",data:=.seq (strValues l).toArray},toks:=k}):
  wpAny (model prog w) A (call (.builtin "str.split") [.str x t,.str y u]) Q E s:=by
 have hn:(partsBetween x (occurrences x y 0 x.length (x.length+1)) y.length).length<=sizeLine:=by
  have e1:=StrLaws.occ_length_le x y 0 x.length (x.length+1)
  rw[length_partsBetween];omega
 cases h1:(decide (x.length<y.length)||decide (strKind x<strKind y))
 ·cases hf:(occurrences x y 0 x.length (x.length+1)).isEmpty
  ·refine call_meets F.slot_str_split (typeIs_str _ _ _) F.entry_str_split (F.args_str_split_2 _ _) (meets_str_split_sep x y t u h1 hy hf (by omega) hn) ?_
   show wants Q E _ {s with toks:=_,heap:=s.heap.push {cls:=.type "list",data:=.seq (strsFrom s.toks (partsBetween x (occurrences x y 0 x.length (x.length+1)) y.length)).toArray} }
   rw[strsFrom_eq]
   exact h (numbered s.toks _) _ ((numbered_texts _ _).trans ((if_neg (ne_true_of_eq_false h1)).trans (if_neg (ne_true_of_eq_false hf))).symm)
  ·exact call_meets F.slot_str_split (typeIs_str _ _ _) F.entry_str_split (F.args_str_split_2 _ _) (meets_str_split_not_found x y t u h1 hy hf)
    (h [(x,t)] s.toks ((if_neg (ne_true_of_eq_false h1)).trans (if_pos hf)).symm)
 ·exact call_meets F.slot_str_split (typeIs_str _ _ _) F.entry_str_split (F.args_str_split_2 _ _) (meets_str_split_cannot_occur x y t u h1)
   (h [(x,t)] s.toks (if_pos h1).symm)
end
theorem ahC(c:Nat):∀l,(spl c l).length<=l.length+1
 |[]=>by simp[spl]
 |x::r=>by
  have ih:=ahC c r
  unfold spl
  split
  ·simp;omega
  ·split
   ·rename_i e;rw[e] at ih;simp at ih ⊢;omega
   ·simp
section
variable{X:Cx}
noncomputable def aAA:V->List V->Hp->VK->Prop:=fun x vs H Q=>∃(l:List Nat) (c:Nat),x=.str (Tx l)/\vs=[.str (Tx [c])]/\l.length+2<=sizeLine/\∀p,H p=none->Q (.ref p) (upd H p (.lst ((spl c l).map fun q=>V.str (Tx q))))
theorem ay3:MtR X "str.split" aAA:=by
 intro pins s σ H x xs v us Q I rx rv h
 obtain⟨l,c,rfl,rfl,hz,q⟩:=h
 obtain⟨u,rfl,t',rfl⟩:=acE rv
 obtain⟨t,rfl⟩:=rx
 refine auS (by rfl) (by rw[abC];exact hz) fun ps k e=>?_
 have e2:ps.map (fun p=>V.str p.1)=(spl c l).map fun q=>V.str (Tx q):=by
  have:=congrArg (List.map V.str) e
  rw[ayE,bM,bM] at this
  exact this
 have hl:((spl c l).map fun q=>V.str (Tx q)).length<=sizeLine:=by
  have:=ahC c l
  rw[aM]
  omega
 refine⟨.ref s.heap.objs.size,upd H s.heap.objs.size (.lst ((spl c l).map fun q=>V.str (Tx q))),I.laid (t':=k) (fun b u e=>aS _ e) (aO _) ?_,rfl,q _ (I.hok.fresh (aO _))⟩
 exact⟨hl,strValues ps,0,by rw[←e2];exact aoK ps,bC _ rfl⟩
theorem avO{o e:Expr}{to te:TE}{apos cpos:Pos}(ho:E X o to)(he:E X e te)(hbase:attributeBase o "split" X.env (eval o X.env)=eval o X.env:=by rfl)
  (hfew:((backTo cpos (starEach [e] X.env)).all (fun x=> !x.1)&&(backToKw cpos (keywordEach [] X.env)).all (fun x=>x.1.isSome)&&decide (([e]:List Expr).length+([]:List Keyword).length+(if ([]:List Keyword).isEmpty then 0 else 1)<30))=true:=by rfl)
  (hline:(apos.endLine==cpos.line)=true:=by rfl) (hs:starEach [e] X.env=(false,eval e X.env)::starEach [] X.env:=by rfl) (hplain:(backTo cpos (starEach [] X.env)).any (·.1)=false:=by rfl):
  E X (.Call (.Attribute o "split" apos) [e] [] cpos) (tBM X.K "str" aAA to (ajO te aiE)):=
 ⟨asL PySem.F.plainAttrs_str PySem.F.slot_str_split PySem.F.type_str_split ay3 ho.h (adC he.h afF hs) hbase hfew hline hs hplain⟩
theorem oInX:Op2 X (compareOp .In) (fun x y H Q=>∃(c:Nat) (l:List Nat),x=.str (Tx [c])/\y=.str (Tx l)/\Q (.bl (decide (c∈l))) H):=by
 refine⟨fun pins s σ H x y v u Q I rx ry h=>?_⟩
 obtain⟨c,l,rfl,rfl,q⟩:=h
 refine axZ pins s σ H _ _ v u Q I rx ry ⟨_,_,rfl,rfl,?_⟩
 rw[show (!(occurrences (Tx l) (Tx [c]) 0 (Tx l).length 1).isEmpty)=decide (c∈(Tx l).cps.toList) from StrLaws.found_one (Tx l) c]
 exact q
theorem ay4:Cl1 X (.builtin "len") (fun xs H Q=>∃l:List Nat,xs=[.str (Tx l)]/\l.length<=sizeLine/\Q (.int l.length) H):=by
 refine⟨fun pins s σ H xs us Q I r h=>?_⟩
 obtain⟨l,rfl,hz,q⟩:=h
 refine apS pins s σ H _ us Q I r ⟨Tx l,rfl,by rw[abC];exact hz,?_⟩
 rw[abC]
 exact q
theorem abD:Op2 X (binaryOp .Add) (fun x y H Q=>∃a b:List Nat,x=.str (Tx a)/\y=.str (Tx b)/\a.length+b.length<=sizeLine/\Q (.str (Tx (a++b))) H):=by
 refine⟨fun pins s σ H x y v u Q I rx ry h=>?_⟩
 obtain⟨a,b,rfl,rfl,hz,q⟩:=h
 refine avD pins s σ H _ _ v u Q I rx ry ⟨_,_,rfl,rfl,by rw[abC,abC];exact hz,?_⟩
 have e:Tx a++Tx b=Tx (a++b):=by show Str.mk _=Str.mk _;simp
 rw[e]
 exact q
theorem xX:Ixs X (fun x y H Q=>∃(l:List Nat) (i:Int) (c:Nat),x=.str (Tx l)/\y=.int i/\l.length<=sizeLine/\atI l i=some c/\Q (.str (Tx [c])) H):=by
 refine⟨fun value slice pins s σ H x y v u Q I rx ry h hs=>?_⟩
 obtain⟨l,i,c,rfl,rfl,hz,ha,q⟩:=h
 exact aE5 value slice pins s σ H _ _ v u Q I rx ry ⟨Tx l,i,c,rfl,rfl,by rw[abC];exact hz,by simpa using ha,q⟩ hs
end
end L2
namespace L2
open PySem PySem.Spec PyProof.Rows PySem.Builtin PySem.Builtin.Str
section
variable{X:Cx}{pins:List (Addr×Obj)}{σ:St}{H:Hp}{s:Shared}{h':Heap}
theorem Inv.turnT{ch:List Addr}{T:Addr}{o:HO}{t':Nat}(I:Inv X pins σ H s)(k:∀b u,b∉ch->s.heap.get? b=some u->h'.get? b=some u)(hch:∀b∈ch,adY X pins H b)(hT:s.heap.objs.size<=T)(new:ObjOk X.prog X.w (upd H T o) h' T o):
  Inv X pins σ (upd H T o) {s with heap:=h',toks:=t'}:=by
 have hn:=I.hok.fresh hT
 have nit:∀b u,H b=some u->b∉ch:=fun b u e z=>by rw[(hch b z).1] at e;cases e
 refine I.step (g':=s.gens) (d':=s.drawn) (ch:=ch) (fun b hb=>?_) (fun b u _ _ hc e _=>k b u hc e) (fun b u _ _ hc e _=>⟨u.slots,k b u hc e⟩) (fun b u _ e n=>?_)
  (fun b u hc e=>⟨u,k b u hc e⟩) (fun b xs e=>by rw[aaH (aaL e hn)];exact e) (fun b u xs e=>by rw[aaH (aaL e hn)];exact e) (fun b ps e=>⟨#[],by rw[aaH (aaL e hn),e];simp⟩) (fun m hm=>?_) (fun b u e=>?_) I.bare
 ·obtain⟨f0,f1,f2,f3,f4,f5⟩:=hch b hb
  exact⟨f3,f1,f4,f5⟩
 ·rw[aaH (aV (aX (aQ e) hT))]
  exact n
 ·obtain⟨ob,es,ep,ho,r⟩:=hm
  exact⟨ob,es,ep,k _ ob (fun z=>(hch _ z).2.1 rfl) ho,r⟩
 ·by_cases hb:b=T
  ·subst hb;rw[aaA] at e;cases e;exact new
  ·rw[aaH hb] at e
   refine (I.hok b u e).stay (fun c v hc q=>k c v ?_ q) (fun c q=>by rw[aaH (aaL q hn)];exact q) fun c xs q=>by rw[aaH (aaL q hn)];exact q
   rcases hc with z | z
   ·rw[z];exact nit b u e
   ·exact nit c _ z
theorem Inv.turnN{ch:List Addr}{t':Nat}(I:Inv X pins σ H s)(k:∀b u,b∉ch->s.heap.get? b=some u->h'.get? b=some u)(hch:∀b∈ch,adY X pins H b):Inv X pins σ H {s with heap:=h',toks:=t'}:=by
 have nit:∀b u,H b=some u->b∉ch:=fun b u e z=>by rw[(hch b z).1] at e;cases e
 refine I.step (g':=s.gens) (d':=s.drawn) (ch:=ch) (fun b hb=>?_) (fun b u _ _ hc e _=>k b u hc e) (fun b u _ _ hc e _=>⟨u.slots,k b u hc e⟩) (fun b u _ e n=>n)
  (fun b u hc e=>⟨u,k b u hc e⟩) (fun b xs e=>e) (fun b u xs e=>e) (fun b ps e=>⟨#[],by rw[e];simp⟩) (fun m hm=>?_) (fun b u e=>?_) I.bare
 ·obtain⟨f0,f1,f2,f3,f4,f5⟩:=hch b hb
  exact⟨f3,f1,f4,f5⟩
 ·obtain⟨ob,es,ep,ho,r⟩:=hm
  exact⟨ob,es,ep,k _ ob (fun z=>(hch _ z).2.1 rfl) ho,r⟩
 ·refine (I.hok b u e).stay (fun c v hc q=>k c v ?_ q) (fun c q=>q) fun c xs q=>q
  rcases hc with z | z
  ·rw[z];exact nit b u e
  ·exact nit c _ z
end
noncomputable def Ite(K:FG)(a:Addr):It:=
 ⟨fun i H=>∃xs x,SqL K H a xs/\xs[i]? =some x,fun i H v H'=>∃T,v=.ref T/\H T=none/\∀xs,SqL K H a xs->∃x,xs[i]? =some x/\H'=upd H T (.tup [.int i,x]),fun i H=>∃xs,SqL K H a xs/\xs.length=i⟩
theorem axX{P:Program}{w:World}{K:FG}{es:List Expr}{kk:Nat}{pos:Pos}(a e it:Addr)(hne:e≠it):Turn P w K (.Tuple es kk pos) (Ite K a) [e,it] e (fun i h=>(∃old,IsEnum h e it i old)/\h.IsListIter it a i) where
 mem:=by simp
 obj:=fun i h st b hb=>by
  obtain⟨⟨old,he⟩,o,e1,c,d⟩:=st
  rcases aR.mp hb with z | z
  ·subst z
   exact⟨_,he,fun v q=>by
    have q':Data.fields _=Data.cell v:=q
    cases q'⟩
  ·have z:b=it:=by simpa using z
   subst z
   exact⟨o,e1,fun v q=>by rw[d] at q;cases q⟩
 keep:=fun i h h' st k=>by
  obtain⟨⟨old,he⟩,hit⟩:=st
  exact⟨⟨old,k e (by simp) _ he⟩,hit.at fun o q=>k it (by simp) o q⟩
 item:=by
  intro X hP hw hK hc i pins s σ H E I hf st hg
  subst hP hw hK
  obtain⟨xs,x,hq,hx⟩:=hg
  obtain⟨⟨old,he⟩,hit⟩:=st
  obtain⟨its,rv,p,hz⟩:=I.list hq
  obtain⟨u,hu,ru⟩:=rv.get hx
  refine wpAny_pyNext_enum_item he hit p.isList (x:=u) (by simpa using hu) hne fun h1 ho hit1 hT hsz hk=>?_
  refine⟨_,rfl,wpAny_letOwnedTupleGo_enum ho fun h2 he2 sb=>?_⟩
  have ele:e<s.heap.objs.size:=aQ he
  have k2:∀b ob,b∉[e,it]->s.heap.get? b=some ob->h2.get? b=some ob:=fun b ob hb q=>by
   have n1:b≠e:=fun z=>hb (by simp[z])
   have n2:b≠it:=fun z=>hb (by simp[z])
   exact (sb.2 b n1).trans (hk b ob n1 n2 q)
  have hTn:s.heap.objs.size≠e:=Nat.ne_of_gt ele
  have hT2:h2.get? s.heap.objs.size=some {cls:=.type "tuple",data:=.seq #[.int i s.toks,u]}:=(sb.2 _ hTn).trans hT
  have hn:=I.hok.fresh (aO s.heap.objs.size)
  have I2:Inv X pins σ (upd H s.heap.objs.size (.tup [.int i,x])) {s with heap:=h2,toks:=s.toks+1}:=I.turnT k2 hf (aO _) ⟨by show 2<=sizeLine;decide,[.int i s.toks,u],.cons ⟨_,rfl⟩ (.cons ru .nil),⟨_,hT2,rfl,_,rfl⟩⟩
  refine⟨.ref s.heap.objs.size,_,I2,rfl,⟨s.heap.objs.size,rfl,hn,fun ys hy=>⟨x,by rw[I.list_inj hy hq];exact hx,rfl⟩⟩,⟨⟨_,by simpa using he2⟩,hit1.at fun o q=>(sb.2 it (Ne.symm hne)).trans q⟩,fun b hb=>?_⟩
  have hblt:b<s.heap.objs.size:=by
   rcases aR.mp hb with z | z
   ·rw[z];exact ele
   ·have z:b=it:=by simpa using z
    obtain⟨o,q,_⟩:=hit
    rw[z];exact aQ q
  rw[aaH (aV hblt)]
  exact (hf b hb).1
 done:=by
  intro X hP hw hK hc i pins s σ H E I hf st hg
  subst hP hw hK
  obtain⟨xs,hq,hx⟩:=hg
  obtain⟨⟨old,he⟩,hit⟩:=st
  obtain⟨its,rv,p,hz⟩:=I.list hq
  have hl:=rv.length
  refine wpAny_pyNext_enum_end (I.ok.hd hc) he hit p.isList (by simp;omega) fun h' hk=>⟨rfl,?_⟩
  exact I.turnN (ch:=[e,it]) (t':=s.toks) (fun b ob hb q=>hk b ob (fun z=>hb (by simp[z])) q) hf
 self:=fun _ _ _ _ _ st h=>by
  obtain⟨⟨old,he⟩,_⟩:=st
  exact wpAny_pyIter_enum he h
section
variable{X:Cx}{es:List Expr}{kk:Nat}{tpos:Pos}
noncomputable def iEnu(K:FG)(tl:TE):TI:=fun σ H R=>tl σ H fun x H1=>∃a,x=.ref a/\(∃xs,SqL K H1 a xs)/\R (Ite K a) H1
theorem ayJ:bootBuiltins "enumerate"=some (.type "enumerate"):=by decide +kernel
theorem iE{l:Expr}{tl:TE}{p pos:Pos}(hm:X.mg "enumerate"=none)(hl:E X l tl)(hg:Gl X "enumerate":=by rfl)(hs:starEach [l] X.env=[(false,eval l X.env)]:=by rfl):
  Il X (.Tuple es kk tpos) (.Call (.Name "enumerate" p) [l] [] pos) (iEnu X.K tl):=by
 refine⟨fun pins s σ H R I h=>?_⟩
 have hA:PA X [l] (ajO tl aiE):=adC hl.h afF hs
 refine Call_ (aiB I hg hm ayJ (PyProof.Rows.callWith_type1 (thn (hA pos pins s σ H (fun vs H1=>match vs with | [x]=>∃a,x=.ref a/\(∃xs,SqL X.K H1 a xs)/\R (Ite X.K a) H1 | _=>False) I ?_) fun us s1 ⟨vs,H1,I1,r1,q1⟩=>?_) hs rfl))
 ·exact h
 match vs,q1,r1 with
 |[x],q1,r1=>?_
 obtain⟨a,rfl,⟨xs,hq⟩,q⟩:=q1
 obtain⟨u,rfl,rx⟩:=acE r1
 cases rx
 obtain⟨its,rv,pl,hz⟩:=I1.list hq
 refine call_enumerate_list pl.isList fun h' he hit hsz hk=>?_
 refine wpAny_pyIter_enum he ?_
 have I2:Inv X pins σ H1 {s1 with heap:=h'}:=I1.kept (t':=s1.toks) hk
 have hne:s1.heap.objs.size+1≠s1.heap.objs.size:=Nat.ne_of_gt (cR _)
 refine⟨s1.heap.objs.size+1,[s1.heap.objs.size+1,s1.heap.objs.size],_,_,H1,rfl,I2,axX a _ _ hne,⟨⟨_,he⟩,hit⟩,fun b hb=>?_,q⟩
 have hb2:s1.heap.objs.size<=b:=by
  rcases aR.mp hb with z | z
  ·rw[z];exact Nat.le_succ _
  ·have z:b=s1.heap.objs.size:=by simpa using z
   rw[z];exact aO _
 exact I1.fpOk hb2 (I1.hok.fresh hb2)
end
theorem ar1{K:FG}{a:Addr}{xs:List V}{g:TG}{tb:TS}{D:Ends}{σ:St}{H:Hp}(Pv:Nat->St->Hp->Prop)(h0:Pv 0 σ H)(hl:∀i σ H,i<=xs.length->Pv i σ H->SqL K H a xs)
  (hs:∀i x σ H T,xs[i]? =some x->Pv i σ H->H T=none->g (.ref T) σ (upd H T (.tup [.int i,x])) fun σ2 H2=>tb {D with nx:=Pv (i+1),ct:=Pv (i+1),bk:=D.nx} σ2 H2) (hd:∀σ H,Pv xs.length σ H->D.nx σ H):
  ∃W:Nat->Nat->St->Hp->Prop,(∃m,W 0 m σ H)/\∀i m σ H,W i m σ H->
   ((Ite K a).stop i H/\D.nx σ H)∨((Ite K a).go i H/\∃N:St->Hp->Prop,(∀σ' H',N σ' H'->∃m',m'<m/\W (i+1) m' σ' H')/\∀x H',(Ite K a).yld i H x H'->g x σ H' fun σ2 H2=>tb {D with nx:=N,ct:=N,bk:=D.nx} σ2 H2):=by
 refine⟨fun i m σ H=>m=xs.length-i/\i<=xs.length/\Pv i σ H,⟨xs.length,by simp,aZ _,h0⟩,?_⟩
 rintro i m σ H ⟨rfl,hi,p⟩
 have hq:=hl i σ H hi p
 by_cases hlt:i<xs.length
 ·refine .inr ⟨⟨xs,xs[i],hq,by simp[hlt]⟩,Pv (i+1),fun σ' H' p'=>⟨xs.length-(i+1),by omega,rfl,hlt,p'⟩,fun x H' y=>?_⟩
  obtain⟨T,rfl,hT,hy⟩:=y
  obtain⟨x,hx,rfl⟩:=hy xs hq
  exact hs i x σ H T hx p hT
 ·have e:i=xs.length:=by omega
  subst e
  exact .inl ⟨⟨xs,hq,rfl⟩,hd σ H p⟩
noncomputable def num(m:Nat):List Nat:=(Nat.toDigits 10 m).map Char.toNat
section
variable{X:Cx}
theorem aNP:Cl1 X (.type "int") (fun xs H Q=>∃l:List Nat,xs=[.str (Tx l)]/\PySem.NumText.AllDigits l/\l≠[]/\l.length<=640/\Q (.int ((PySem.NumText.digitsVal l:Nat):Int)) H):=by
 refine⟨fun pins s σ H xs us Q I r h=>?_⟩
 obtain⟨l,rfl,h1,h2,h3,q⟩:=h
 obtain⟨u,rfl,t,rfl⟩:=acE r
 refine PySem.W.KIN.call_text (PySem.intText_digits (x:=Tx l) (by simpa using h1) (by simpa using h2) (by rw[abC];omega)) (by rw[abC];exact h3) ?_
 exact⟨.int _,H,I.tok _,⟨_,rfl⟩,by simpa using q⟩
theorem aa8:Cl1 X (.type "str") (fun xs H Q=>∃n:Nat,xs=[.int n]/\n<10^500/\Q (.str (Tx (num n))) H):=by
 refine⟨fun pins s σ H xs us Q I r h=>?_⟩
 obtain⟨n,rfl,hn,q⟩:=h
 refine apC pins s σ H _ us Q I r ⟨(n:Int),rfl,?_,?_⟩
 ·by_cases h0:n=0
  ·subst h0;decide
  ·have:n<2^1900:=aX hn (by decide +kernel)
   have:=(Nat.log2_lt h0).mpr this
   show (n:Int).natAbs.log2<1920
   simp only[Int.natAbs_natCast]
   omega
 ·have e:PySem.Str.ofString (toString (n:Int))=Tx (num n):=by
   rw[←azJ (PySem.Str.ofString (toString (n:Int)))]
   exact congrArg (fun z=>Tx z) (PySem.W.KIN.signs_num n)
  show Q (.str (PySem.Str.ofString (toString (n:Int)))) H
  rw[e]
  exact q
end
end L2
namespace L2
open PySem PySem.Spec PyProof.Rows PySem.Builtin PySem.Builtin.Str
theorem ifT{b:Bool}{A B:Prop}(e:b=true)(h:A):if b=true then A else B:=by rw[if_pos e];exact h
theorem ifF{b:Bool}{A B:Prop}(e:b=false)(h:B):if b=true then A else B:=by rw[if_neg (by rw[e];exact aW)];exact h
theorem if2{b:Bool}{A B:Prop}(h1:b=true->A)(h2:b=false->B):if b=true then A else B:=by
 cases b
 ·exact ifF rfl (h2 rfl)
 ·exact ifT rfl (h1 rfl)
theorem ay6(a b:List Nat):decide (V.str (Tx a)=V.str (Tx b))=decide (a=b):=decide_eq_decide.mpr ⟨fun h=>Tx_inj.mp (V.str.inj h),fun h=>by rw[h]⟩
section
variable{X:Cx}{pos:Pos}
theorem eSx{z:Str}{j}(l:List Nat)(h:z=Tx l:=by decide +kernel):E X (.Constant (.str z) j pos) (tC (.str (Tx l))):=by
 subst h
 exact⟨au6⟩
end
noncomputable def agL(c:Nat):Bool:=decide (48<=c)&&decide (c<=57)
noncomputable def aER:List Nat:=[48,49,50,51,52,53,54,55,56,57]
theorem az2(c:Nat):decide (c∈aER)=agL c:=by
 unfold aER agL
 rw[b7,dX,bE,dX,dX]
 simp
 omega
noncomputable def aqH(l:List Nat):Bool:= !decide (l=[])&&l.all agL
noncomputable def isW(l:List Nat):Bool:=aqH l&&(decide (l=[48])|| !decide (l.headD 0=48))
noncomputable def dv(l:List Nat):Int:=((PySem.NumText.digitsVal l:Nat):Int)
noncomputable def aaR(lo hi:Int)(l:List Nat):Option Int:=if isW l=true then (if lo<=dv l/\dv l<=hi then some (dv l) else none) else none
noncomputable def oV:Option Int->V
 |none=>.non
 |some n=>.int n
noncomputable def ahD(es:List (Option Int)):Option (Int×Int):=match es with
 |[some a]=>some (a,a)
 |[some a,some b]=>if b<a then none else some (a,b)
 |_=>none
noncomputable def aaT(lo hi:Int)(l:List Nat):Option (Int×Int):=if l=[42] then some (lo,hi) else ahD ((spl 45 l).map (aaR lo hi))
@[irreducible] noncomputable def ab4(a b s:Int):List Int:=(List.range (Builtin.Range.rangeSize a (b+1) s).toNat).map fun i:Nat=>a+(i:Int)*s
theorem abY(a b s:Int):ab4 a b s=(List.range (Builtin.Range.rangeSize a (b+1) s).toNat).map fun i:Nat=>a+(i:Int)*s:=by rw[ab4]
noncomputable def abV(a b s:Int):Int:=aa3 (ab4 a b s)
noncomputable def abE(lo hi:Int)(r s:List Nat):Option Int:=
 match aaT lo hi r,aaR 1 99 s with
 |some (a,b),some st=>some (abV a (if isW r=true then hi else b) st)
 |_,_=>none
noncomputable def aaG(lo hi:Int)(l:List Nat):Option Int:=
 match spl 47 l with
 |[r,s]=>abE lo hi r s
 |_=>match aaT lo hi l with
  |some (a,b)=>some (abV a b 1)
  |none=>none
theorem au4{l:List Nat}(h:isW l=true):PySem.NumText.AllDigits l/\l≠[]:=by
 unfold isW aqH at h
 rw[bE,bE] at h
 refine⟨fun c hc=>?_,fun e=>?_⟩
 ·have:=bX.mp h.1.2 c hc
  unfold agL at this
  rw[bE] at this
  exact⟨dS this.1,dS this.2⟩
 ·rw[dU e] at h
  exact absurd h.1.1 (by decide)
theorem ahS{a b s:Int}(hs:0<s):Builtin.Range.rangeSize a (b+1) s=if a<=b then (b-a) / s+1 else 0:=by
 unfold Builtin.Range.rangeSize
 rw[if_pos hs]
 by_cases c:a<=b
 ·rw[if_pos c,if_pos (by omega),show b+1-a-1=b-a by omega]
 ·rw[if_neg c,if_neg (by omega)]
theorem ahA{a b s z:Int}(hs:0<s):z∈ab4 a b s↔a<=z/\z<=b/\(z-a)%s=0:=by
 rw[abY,a9,ahS hs]
 refine⟨fun ⟨i,hi,e⟩=>?_,fun ⟨h1,h2,h3⟩=>?_⟩
 ·subst e
  by_cases c:a<=b
  ·rw[if_pos c,cQ] at hi
   have hq:(i:Int)<=(b-a) / s:=by
    have:0<=(b-a) / s:=Int.ediv_nonneg (by omega) (by omega)
    omega
   have hm:(i:Int)*s<=(b-a) / s*s:=Int.mul_le_mul_of_nonneg_right hq (by omega)
   have hd:(b-a) / s*s<=b-a:=Int.ediv_mul_le _ (by omega)
   have h0:0<=(i:Int)*s:=Int.mul_nonneg (by omega) (by omega)
   refine⟨by omega,by omega,?_⟩
   rw[show a+(i:Int)*s-a=(i:Int)*s by omega]
   exact Int.mul_emod_left _ _
  ·rw[if_neg c,cQ] at hi
   exact absurd hi (by simp)
 ·rw[if_pos (by omega)]
  have hd:s*((z-a) / s)+(z-a)%s=z-a:=Int.mul_ediv_add_emod _ _
  rw[h3,Int.add_zero] at hd
  have h0:0<=(z-a) / s:=Int.ediv_nonneg (by omega) (by omega)
  have hle:(z-a) / s<=(b-a) / s:=Int.ediv_le_ediv hs (by omega)
  refine⟨((z-a) / s).toNat,cQ.mpr (by omega),?_⟩
  rw[bA h0,Int.mul_comm]
  omega
theorem acR{a b s:Int}(h0:0<=a)(h1:b<=1000)(hs:0<s):(Builtin.Range.rangeSize a (b+1) s).toNat<=1001/\Builtin.Range.rangeSize a (b+1) s=((Builtin.Range.rangeSize a (b+1) s).toNat:Int):=by
 have hz:=awR (a:=a) (b:=b+1) hs
 refine⟨?_,by omega⟩
 rw[ahS hs]
 split
 ·have:(b-a) / s<=b-a:=Int.ediv_le_self _ (by omega)
  omega
 ·decide
theorem acH{a b s:Int}(h0:0<=a)(ha:a<=1000)(h1: -1<=b)(hb:b<=1000)(hs:0<s)(hs2:s<=1000):Builtin.Range.small a (b+1) s=true:=by
 have hl:=acR h0 hb hs
 have hz:=awR (a:=a) (b:=b+1) hs
 unfold Builtin.Range.small
 simp only[Builtin.Range.rangeFitsLong,bE,Bool.or_eq_true,dX,beq_iff_eq]
 refine⟨⟨⟨⟨?_,?_⟩,?_⟩,?_⟩,.inr ?_⟩
 ·exact⟨by omega,by omega⟩
 ·exact⟨by omega,by omega⟩
 ·exact⟨by omega,by omega⟩
 ·exact⟨by omega,by omega⟩
 ·rw[if_pos hs]
  simp only[bE,dX]
  exact⟨by omega,by omega⟩
end L2
namespace L2
open PySem PySem.Spec PyProof.Rows PySem.Builtin PySem.Builtin.Str
theorem atM{lo hi a:Int}{l:List Nat}(h:aaR lo hi l=some a):lo<=a/\a<=hi:=by
 unfold aaR at h
 split at h
 ·split at h
  ·rename_i c
   have:=a8 h
   omega
  ·cases h
 ·cases h
theorem al7{lo hi a b:Int}{l:List Nat}(hle:lo<=hi)(h:aaT lo hi l=some (a,b)):(lo<=a/\a<=hi)/\lo<=b/\b<=hi:=by
 unfold aaT at h
 split at h
 ·cases h;omega
 ·have key:∀es:List (Option Int),(∀e∈es,∀x,e=some x->lo<=x/\x<=hi)->ahD es=some (a,b)->(lo<=a/\a<=hi)/\lo<=b/\b<=hi:=by
   intro es hb h
   match es,hb,h with
   |[some x],hb,h=>
    have h:some (x,x)=some (a,b):=h
    cases h
    have:=hb _ (by simp) a rfl
    exact⟨this,this⟩
   |[some x,some y],hb,h=>
    have h:(if y<x then none else some (x,y))=some (a,b):=h
    split at h
    ·cases h
    ·cases h
     exact⟨hb (some a) (by simp) a rfl,hb (some b) (by simp) b rfl⟩
   |[],_,h=>cases h
   |[none],_,h=>cases h
   |[none,y],_,h=>cases h
   |[some x,none],_,h=>cases h
   |x::y::u::r,_,h=>cases x<;>cases y<;>cases h
  refine key _ (fun e he x hx=>?_) h
  obtain⟨w,_,rfl⟩:=a9.mp he
  exact atM hx
noncomputable def orM(ms:List Int):Int:=ms.foldl (fun a m=>Builtin.bitOr a m) 0
theorem adP(ms:List Int)(m:Int):orM (ms++[m])=Builtin.bitOr (orM ms) m:=by unfold orM;rw[List.foldl_append];rfl
theorem amI:∀(ms:List Int) (a:Int),0<=a->(∀m∈ms,0<=m)->0<=ms.foldl (fun a m=>Builtin.bitOr a m) a/\∀i,tb (ms.foldl (fun a m=>Builtin.bitOr a m) a) i=(tb a i||ms.any fun m=>tb m i)
 |[],a,h,_=>⟨h,fun i=>by simp⟩
 |m::ms,a,h,hm=>by
  have hp:=hm m (by simp)
  obtain⟨h1,h2⟩:=amI ms (Builtin.bitOr a m) (adD h hp) fun z hz=>hm z (by simp[hz])
  refine⟨h1,fun i=>?_⟩
  show tb (ms.foldl _ (Builtin.bitOr a m)) i=_
  rw[h2 i,ahE h hp,bW,Bool.or_assoc]
theorem abQ{ms:List Int}(h:∀m∈ms,0<=m):0<=orM ms:=(amI ms 0 (aU 0) h).1
theorem abU{ms:List Int}(h:∀m∈ms,0<=m)(i:Nat):tb (orM ms) i=ms.any fun m=>tb m i:=by
 have:=(amI ms 0 (aU 0) h).2 i
 rw[abL,Bool.false_or] at this
 exact this
noncomputable def acM(lo hi:Int)(l:List Nat):List Int:=(spl 44 l).map fun w=>(aaG lo hi w).getD 0
noncomputable def awX(lo hi:Int)(l:List Nat):Prop:=(spl 44 l).length<=40/\∀w∈spl 44 l,(aaG lo hi w).isSome=true
theorem abK:∀n:Nat,n<100->isW (num n)=true/\dv (num n)=(n:Int)/\((num n).all fun c=>agL c)=true/\(num n).length<=2:=by decide +kernel
theorem aaU{n c:Nat}(h:n<100)(hc:agL c=false):c∉num n:=fun hm=>by
 have:=bX.mp (abK n h).2.2.1 c hm
 rw[hc] at this
 cases this
theorem aEB{n:Nat}(h:n<100):num n≠[42]:=fun e=>by
 have:=aaU h (c:=42) (by decide)
 rw[e] at this
 exact this (by simp)
theorem afP{n:Nat}{lo hi:Int}(h:n<100)(h1:lo<=n)(h2:(n:Int)<=hi):aaR lo hi (num n)=some (n:Int):=by
 obtain⟨a,b,_⟩:=abK n h
 unfold aaR
 rw[if_pos a,b,if_pos ⟨h1,h2⟩]
theorem aFH{l:List Nat}{c:Nat}(hm:c∈l)(hc:agL c=false):isW l=false:=by
 cases e:isW l
 ·rfl
 ·unfold isW aqH at e
  rw[bE,bE] at e
  have:=bX.mp e.1.2 c hm
  rw[hc] at this
  cases this
theorem awF{n:Nat}{lo hi:Int}(h:n<100)(h1:lo<=n)(h2:(n:Int)<=hi):aaT lo hi (num n)=some ((n:Int),(n:Int)):=by
 unfold aaT
 rw[if_neg (aEB h),adO 45 _ (aaU h (by decide))]
 show ahD [aaR lo hi (num n)]=_
 rw[afP h h1 h2]
 rfl
theorem awV{n m:Nat}{lo hi:Int}(h:n<100)(h':m<100)(h1:lo<=n)(h2:n<=m)(h3:(m:Int)<=hi):aaT lo hi (num n++45::num m)=some ((n:Int),(m:Int)):=by
 unfold aaT
 rw[if_neg (fun e=>by (have:45∈num n++45::num m:=(by simp));rw[e] at this;simp at this),akZ 45 _ _ (aaU h (by decide)),adO 45 _ (aaU h' (by decide))]
 show ahD [aaR lo hi (num n),aaR lo hi (num m)]=_
 rw[afP h h1 (by omega),afP h' (by omega) h3]
 show (if (m:Int)<n then none else some ((n:Int),(m:Int)))=_
 rw[if_neg (by omega)]
theorem atN{lo hi:Int}:aaT lo hi [42]=some (lo,hi):=by unfold aaT;rw[if_pos rfl]
theorem amH{lo hi a b:Int}{r:List Nat}(hf:47∉r)(h:aaT lo hi r=some (a,b)):aaG lo hi r=some (abV a b 1):=by
 unfold aaG
 rw[adO 47 r hf,h]
theorem al4{lo hi a b:Int}{r:List Nat}{s:Nat}(hf:47∉r)(h:aaT lo hi r=some (a,b))(hs:s<100)(hs1:1<=s):aaG lo hi (r++47::num s)=some (abV a (if isW r=true then hi else b) s):=by
 unfold aaG
 rw[akZ 47 r _ hf,adO 47 _ (aaU hs (by decide))]
 show abE lo hi r (num s)=_
 unfold abE
 rw[h,afP hs (by omega) (by omega)]
end L2
namespace L2
open PySem PySem.Spec PyProof.Rows PySem.Builtin PySem.Builtin.Str
theorem asS:∀{ws:List (List Nat)} {vs:List Value},Vals (ws.map fun q=>V.str (Tx q)) vs->StrsAre vs (ws.map Tx)
 |[],[],_=>.nil
 |[],_::_,h=>nomatch h
 |_::_,[],h=>nomatch h
 |w::r,v::vs,.cons h t=>by
  obtain⟨k,rfl⟩:=h
  exact .cons (Tx w) k (asS t)
theorem aB6(c:Nat)(ws:List (List Nat)):Txt.join (Tx [c]) (ws.map Tx)=Tx (aaK c ws):=by
 have e1:Txt.join (Tx [c]) (ws.map Tx)=Str.join (Tx [c]) (ws.map Tx):=StrLaws.glued_eq_join _ _
 have e2:=arH c (ws.map Tx)
 rw[bM] at e2
 have e3:ws.map ((fun x:Str=>x.cps.toList) ∘ Tx)=ws:=by
  have:∀l:List (List Nat),l.map ((fun x:Str=>x.cps.toList) ∘ Tx)=l:=fun l=>by
   induction l with
   |nil=>rfl
   |cons a r ih=>rw[bR,ih];simp
  exact this ws
 rw[e3] at e2
 rw[e1,←azJ (Str.join (Tx [c]) (ws.map Tx)),e2]
theorem ah0(c:Nat):∀ws:List (List Nat),(ws.map (·.length)).sum+ws.length=(aaK c ws).length+(if ws=[] then 0 else 1)
 |[]=>rfl
 |[p]=>by simp[aaK]
 |p::q::r=>by
  have ih:=ah0 c (q::r)
  rw[if_neg (by simp)] at ih ⊢
  simp only[bR,List.sum_cons,bF,aaK,aP] at ih ⊢
  omega
section
variable{X:Cx}
noncomputable def aDF(K:FG):V->List V->Hp->VK->Prop:=fun x vs H Q=>∃(c:Nat) (p:Addr) (ws:List (List Nat)),x=.str (Tx [c])/\vs=[.ref p]/\SqL K H p (ws.map fun q=>V.str (Tx q))/\(aaK c ws).length<=1000000/\Q (.str (Tx (aaK c ws))) H
theorem aBF:MtR X "str.join" (aDF X.K):=by
 intro pins s σ H x xs v us Q I rx rv h
 obtain⟨c,p,ws,rfl,rfl,hq,hz,q⟩:=h
 obtain⟨u,rfl,r1⟩:=acE rv
 cases r1
 obtain⟨t,rfl⟩:=rx
 obtain⟨its,rv2,pl,hz2⟩:=I.list hq
 have hj:=ah0 c ws
 have hw:((ws.map Tx).map (·.length)).sum+(ws.map Tx).length<=1048576:=by
  rw[bM,aM]
  have e:ws.map ((fun x:Str=>x.length) ∘ Tx)=ws.map (·.length):=List.map_congr_left fun a _=>abC a
  rw[e]
  split at hj<;>omega
 refine join_listW pl.isList (ys:=ws.map Tx) (by simpa using asS rv2) (by rw[abC];show 1<=16;decide) hw fun t' k=>?_
 refine⟨.str (Tx (aaK c ws)),H,I.kept (t':=k) fun _ _ e=>e,⟨t',by rw[aB6]⟩,q⟩
theorem aeS{o e:Expr}{to te:TE}{apos cpos:Pos}(ho:E X o to)(he:E X e te)(hbase:attributeBase o "join" X.env (eval o X.env)=eval o X.env:=by rfl)
  (hfew:((backTo cpos (starEach [e] X.env)).all (fun x=> !x.1)&&(backToKw cpos (keywordEach [] X.env)).all (fun x=>x.1.isSome)&&decide (([e]:List Expr).length+([]:List Keyword).length+(if ([]:List Keyword).isEmpty then 0 else 1)<30))=true:=by rfl)
  (hline:(apos.endLine==cpos.line)=true:=by rfl) (hs:starEach [e] X.env=(false,eval e X.env)::starEach [] X.env:=by rfl) (hplain:(backTo cpos (starEach [] X.env)).any (·.1)=false:=by rfl):
  E X (.Call (.Attribute o "join" apos) [e] [] cpos) (tBM X.K "str" (aDF X.K) to (ajO te aiE)):=
 ⟨asL PySem.F.plainAttrs_str PySem.F.slot_str_join PySem.F.type_str_join aBF ho.h (adC he.h afF hs) hbase hfew hline hs hplain⟩
theorem aLB:Op2 X (binaryOp .Add) (fun x y H Q=>∃(a b:Addr) (xs ys:List V),x=.ref a/\y=.ref b/\SqL X.K H a xs/\SqL X.K H b ys/\xs.length+ys.length<=sizeLine/\∀p,H p=none->Q (.ref p) (upd H p (.lst (xs++ys)))):=by
 refine⟨fun pins s σ H x y v u Q I rx ry h=>?_⟩
 obtain⟨a,b,xs,ys,rfl,rfl,ha,hb,hz,q⟩:=h
 cases rx
 cases ry
 obtain⟨i1,r1,p1,z1⟩:=I.list ha
 obtain⟨i2,r2,p2,z2⟩:=I.list hb
 obtain⟨⟨cls,dd,data,sl⟩,ho,hc,n,hd⟩:=p1.isList
 obtain⟨⟨cls2,dd2,data2,sl2⟩,ho2,hc2,n2,hd2⟩:=p2.isList
 simp only at hc hd hc2 hd2
 subst hc hd hc2 hd2
 have l1:=r1.length
 have l2:=r2.length
 refine concat_meets ⟨_,ho,rfl⟩ ⟨_,ho2,rfl⟩ noFill_list_add seq_list_add PySem.F.slot_list_add PySem.F.entry_list_add (PySem.F.args_list_add_2 _ _) (list_addW a b _ _ n n2 dd dd2 sl sl2 (by simp only[bN];omega)) ⟨ho,ho2,?_⟩
 refine⟨.ref s.heap.objs.size,upd H s.heap.objs.size (.lst (xs++ys)),I.laid (t':=s.toks) (fun b u e=>aS _ e) (aO _) ?_,rfl,q _ (I.hok.fresh (aO _))⟩
 exact⟨by rw[aP];exact hz,i1++i2,0,r1.append r2,by simpa using bC _ rfl⟩
end
noncomputable def au2(J:It)(k:Nat)(js:List Nat)(g:TG)(σ:St)(tt:TT)(te:TE)(Q:VK)(H1:Hp):Prop:=∀D,H1 D=none->∃W:Nat->Nat->Hp->Prop,(∃m,W 0 m (upd H1 D (.lst [])))/\∀i m H2,W i m H2->
 (J.stop i H2/\Q (.ref D) H2)∨(J.go i H2/\∀v H3,J.yld i H2 v H3->∀τ:St,τ.length=k->g v (τ++aaW js σ) H3 fun σ2 H3'=>(∃τ':St,τ'.length=k/\σ2=τ'++aaW js σ)/\tt σ2 H3' fun b H4=>if b=true then
  te σ2 H4 fun y H5=>∃ys,H5 D=some (.lst ys)/\ys.length<sizeLine/\∃m',m'<m/\W (i+1) m' (upd H5 D (.lst (ys++[y])))
  else ∃m',m'<m/\W (i+1) m' H4)
noncomputable def az5(wi:TI)(k:Nat)(js:List Nat)(g:TG)(tt:TT)(te:TE):TE:=fun σ H Q=>wi σ H fun J H1=>au2 J k js g σ tt te Q H1
section
variable{X:Cx}{elt iter tg:Expr}{xs:List Str}{y:Str}{py pos spos:Pos}{ifs:List Expr}{scope:Scope}{cl:List (Str×Addr)}{N':List Str}{js:List Nat}{tt:TT}{te:TE}{g:TG}{wi:TI}
theorem asO{pins:List (Addr×Obj)}{σ:St}{H:Hp}{s s4:Shared}{fp:List Addr}{C:Addr}{m4:Str->Option Value}(hcl:Clos X scope cl)(hN:js.map (fun j=>X.N[j]?)=N'.map some)
  (hk:N'.all (fun y=>(X.env.kindOf y==some .cell)||(X.env.kindOf y==some .free))=true) (hf:N'.all (fun y=>scope.names.lookup y==some .free)=true)
  (I:Inv X pins σ H s) (hfp:∀b∈fp,adY X pins H b/\b<s.heap.objs.size) (hC:C=s.heap.objs.size) (ho:s4.os=s.os) (hg:s4.gens=s.gens) (hkeep:∀b o,s.heap.get? b=some o->s4.heap.get? b=some o) (hn:s4.heap.Ns C m4):
  Inv (aaN X (xs++N') scope cl C fp pins s H) [] (List.replicate xs.length none++aaW js σ) H s4:=by
 have hne:∀b o,s.heap.get? b=some o->b≠C:=fun b o e=>by rw[hC];exact aV (aQ e)
 refine⟨⟨I.ok.mod,hcl.kind,I.ok.glob,I.ok.blt,Nat.le_of_eq hC.symm,fun y z c h1 h2=>I.ok.inj y z c (hcl.sub y c h1) (hcl.sub z c h2),fun y hy=>hcl.has y (anW (fun z=>hcl.nocell _ (PySem.mem_of_lookup z) rfl) (by rw[←ad1];exact hy)),fun y c h _=>(nomatch h),I.ok.hd,I.ok.frames,.inl rfl,fun b hb=>⟨?_,fun y c e=>(hfp b hb).1.2.2.2.2.1 y c (hcl.sub y c e)⟩,
  I.bs,bJ I.ok.bsz I.sz,fun b o e hb=>?_,fun b hb hz=>?_,I.stack,I.stkFree⟩,ho,by rw[hg];exact I.bare,Un.kept hkeep,⟨m4,hn,fun i y v h1 h2 h3=>?_⟩,fun y c e=>?_,?_,fun y c e=>I.freeC y c (hcl.sub y c e),fun p hp=>?_,I.hok.kept hkeep,?_⟩
 ·rw[hC];exact aV (hfp b hb).2
 ·rcases (hfp b hb).1.2.2.2.1 with z | z
  ·exact I.ok.noex b o e z
  ·exact absurd (aX (aQ e) (bJ I.ok.bsz z)) (cC _)
 ·rcases aR.mp (I.stkSub b hz) with z | z
  ·exact (hfp b hb).1.2.1 z
  ·exact (hfp b hb).1.2.2.1 z
 ·by_cases hi:i<xs.length
  ·rw[List.getElem?_append_left (by rw[c7];exact hi),List.getElem?_replicate,if_pos hi] at h2
   exact nomatch h2
  ·obtain⟨j0,rfl⟩:∃j0,i=xs.length+j0:=⟨i-xs.length,by omega⟩
   have h1:N'[j0]? =some y:=by
    have h1:(xs++N')[xs.length+j0]? =some y:=h1
    rw[List.getElem?_append_right (Nat.le_add_right _ _),Nat.add_sub_cancel_left] at h1
    exact h1
   have h2:(aaW js σ)[j0]? =some (some v):=by rw[List.getElem?_append_right (by rw[c7];exact Nat.le_add_right _ _),c7,Nat.add_sub_cancel_left] at h2;exact h2
   generalize j0=i at h1 h2
   have hy:y∈N':=bH h1
   have q:(js.map (fun j=>X.N[j]?))[i]? =some (some y):=by rw[hN,aY,h1];rfl
   rw[aY] at q
   cases ej:js[i]? with
   |none=>rw[ej] at q;cases q
   |some j=>
    rw[ej] at q
    have q:X.N[j]? =some y:=a8 q
    unfold aaW at h2
    rw[aY,ej] at h2
    have h2:(σ[j]?).getD none=some v:=a8 h2
    have h2:σ[j]? =some (some v):=by
     cases e:σ[j]? with
     |none=>rw[e] at h2;cases h2
     |some o=>rw[e] at h2;exact congrArg some h2
    have kk:=bX.mp hk y hy
    have kk:X.env.kindOf y=some .cell∨X.env.kindOf y=some .free:=by simpa using kk
    have ff:=bX.mp hf y hy
    have ff:scope.names.lookup y=some .free:=by simpa using ff
    obtain⟨m,_,hl⟩:=I.loc
    obtain⟨u,r,l⟩:=hl j y v q h2 (by rcases kk with z | z;exact .inr (.inl z);exact .inr (.inr z))
    refine⟨u,r,.inr ⟨ahI ff,?_⟩⟩
    obtain⟨c,hc⟩:=hcl.has y ff
    rcases l with ⟨z,_⟩ | ⟨_,c',e',cell⟩
    ·rcases kk with k | k<;>(rw[k] at z;cases z)
    ·rw[hcl.sub y c hc] at e'
     cases e'
     exact⟨c,hc,cell.keeps hkeep⟩
 ·obtain⟨v,q⟩:=I.cell y c (hcl.sub y c e)
  exact⟨v,q.keeps hkeep⟩
 ·show H C=none
  rw[hC]
  exact I.hok.fresh (aO _)
 ·have hp:p∈X.pn++pins:=by
   have hp:p∈(X.pn++pins)++[]:=hp
   rwa [bS] at hp
  obtain⟨e,n,ne,nf,d⟩:=I.pin p hp
  refine⟨hkeep _ _ e,n,hne _ _ e,fun z=>?_,d⟩
  rcases aR.mp (I.stkSub p.1 z) with z | z
  ·exact ne z
  ·exact nf z
 ·show (List.replicate xs.length none++aaW js σ).length=(xs++N').length
  rw[aP,aP,c7]
  have q:=congrArg List.length hN
  rw[aM,aM] at q
  unfold aaW
  rw[aM,q]
theorem ayK{pins:List (Addr×Obj)}{σ σ':St}{H H':Hp}{s s':Shared}{fp:List Addr}{C:Addr}(I:Inv X pins σ H s)(hfp:∀b∈fp,adY X pins H b)(J:Inv (aaN X (xs++N') scope cl C fp pins s H) [] σ' H' s'):Inv X pins σ H' s':=
 I.call' (ch:=fp) J.os J.base J.hok J.bare fun b hb=>⟨(hfp b hb).2.2.2.1,(hfp b hb).2.1,(hfp b hb).2.2.2.2.1,(hfp b hb).2.2.2.2.2⟩
theorem asG{pins:List (Addr×Obj)}{σ:St}{H:Hp}{s:Shared}{Q:VK}{RR:Value->Addr->Result->Shared->Prop}{J:It}{fp:List Addr}{it:Addr}{tn:Nat->Heap->Prop}
  (hcl:Clos X scope cl) (hnd:(xs++N').Nodup) (hN:js.map (fun j=>X.N[j]?)=N'.map some)
  (hk:N'.all (fun y=>(X.env.kindOf y==some .cell)||(X.env.kindOf y==some .free))=true) (hf:N'.all (fun y=>scope.names.lookup y==some .free)=true) (hc:X.calm=true)
  (hg:∀(C:Addr) (ex:List Addr) (pins:List (Addr×Obj)) (s:Shared) (H:Hp),PG (aaN X (xs++N') scope cl C ex pins s H) tg g)
  (ht:∀(C:Addr) (ex:List Addr) (pins:List (Addr×Obj)) (s:Shared) (H:Hp),PF (aaN X (xs++N') scope cl C ex pins s H) ifs tt)
  (he:∀(C:Addr) (ex:List Addr) (pins:List (Addr×Obj)) (s:Shared) (H:Hp),PE (aaN X (xs++N') scope cl C ex pins s H) elt te)
  (I:Inv X pins σ H s) (T:Turn X.prog X.w X.K (tg) J fp it tn) (st:tn 0 s.heap) (hfp:∀b∈fp,adY X pins H b)
  (q:∀D,H D=none->∃W:Nat->Nat->Hp->Prop,(∃m,W 0 m (upd H D (.lst [])))/\∀i m H2,W i m H2->
   (J.stop i H2/\Q (.ref D) H2)∨(J.go i H2/\∀v H3,J.yld i H2 v H3->∀τ:St,τ.length=xs.length->g v (τ++aaW js σ) H3 fun σ2 H3'=>(∃τ':St,τ'.length=xs.length/\σ2=τ'++aaW js σ)/\tt σ2 H3' fun b H4=>if b=true then
    te σ2 H4 fun y H5=>∃ys,H5 D=some (.lst ys)/\ys.length<sizeLine/\∃m',m'<m/\W (i+1) m' (upd H5 D (.lst (ys++[y])))
    else ∃m',m'<m/\W (i+1) m' H4))
  (hRR:∀(D C:Addr) (s':Shared) (H':Hp) (m:Str->Option Value),Inv X pins σ H' s'->H' C=none->C≠X.env.locals->X.s₀.heap.objs.size<=C->(∀y c,X.env.cells.lookup y=some c->c≠C)->(∀p∈X.pn++pins,p.1≠C)->s'.heap.Ns C m->Q (.ref D) H'->RR (.ref D) C (.ok .next) s'):
  wpAny (model X.prog X.w) X.A (newList []) (fun acc s₃=>wpAny (model X.prog X.w) X.A (newFunctionEnv scope X.env.globals cl [] X.env.qual none .none (some X.env)) (fun cenv s₄=>
   codeAny (model X.prog X.w) X.A (.compStart (.ListComp elt [⟨tg,iter,ifs,0⟩] scope pos) 0 (.ref it) acc {cenv with scope:=relabel scope X.env}) (RR acc cenv.locals) s₄) X.xe s₃) X.xe s:=by
 refine dM ?_
 have hD:H s.heap.objs.size=none:=I.hok.fresh (aO _)
 have I3:Inv X pins σ (upd H s.heap.objs.size (.lst [])) {s with heap:=s.heap.push {cls:=.type "list",dict:=none,data:=.seq ([]:List Value).toArray} }:=I.lnew (its:=[]) (t':=s.toks) .nil (aZ _)
 have hfp3:∀b∈fp,adY X pins (upd H s.heap.objs.size (.lst [])) b/\b<(s.heap.push {cls:=.type "list",dict:=none,data:=.seq ([]:List Value).toArray}).objs.size:=fun b hb=>by
  obtain⟨o,ho,_⟩:=T.obj 0 _ st b hb
  have hlt:=aQ ho
  obtain⟨f0,f1⟩:=hfp b hb
  exact⟨⟨by rw[aaH (aV hlt)];exact f0,f1⟩,by rw[cG];exact cH hlt⟩
 have st3:tn 0 (s.heap.push {cls:=.type "list",dict:=none,data:=.seq ([]:List Value).toArray}):=T.keep _ _ _ st fun b _ o e=>aS _ e
 obtain⟨W,⟨m0,w0⟩,turn⟩:=q s.heap.objs.size hD
 generalize hs3:({s with heap:=s.heap.push {cls:=.type "list",dict:=none,data:=.seq ([]:List Value).toArray} }:Shared)=s3 at I3 ⊢
 have hh3:s.heap.push {cls:=.type "list",dict:=none,data:=.seq ([]:List Value).toArray}=s3.heap:=by rw[←hs3]
 rw[hh3] at hfp3 st3
 generalize s.heap.objs.size=D at I3 hfp3 w0 turn hD ⊢
 generalize upd H D (.lst [])=H3 at I3 hfp3 w0
 refine wpAny_newFunctionEnv hcl.nocell (by intro y hy;simp at hy) (fun h₁ hns₁ hsb₁=>?_) hcl.kind
 have hkeep:∀b o,s3.heap.get? b=some o->h₁.get? b=some o:=fun b o e=>hsb₁.extBut b o (aV (aQ e)) (aS _ e)
 have J4:Inv (aaN X (xs++N') scope cl s3.heap.objs.size fp pins s3 H3) [] (List.replicate xs.length none++aaW js σ) H3 {s3 with heap:=h₁,toks:=s3.toks+([]:List (Str×Value)).length}:=
  asO hcl hN hk hf I3 hfp3 rfl rfl rfl hkeep hns₁
 have st4:tn 0 h₁:=T.keep _ _ _ st3 fun b _ o e=>hkeep b o e
 have cell':∀{s':Shared} {σ':St} {H':Hp},Inv (aaN X (xs++N') scope cl s3.heap.objs.size fp pins s3 H3) [] σ' H' s'->Q (.ref D) H'->RR (.ref D) s3.heap.objs.size (.ok .next) s':=fun {s' σ' H'} J hq=>by
  obtain⟨m,hn,_⟩:=J.loc
  refine hRR D _ s' H' m (ayK I3 (fun b hb=>(hfp3 b hb).1) J) J.free (Nat.ne_of_gt I3.lt) I3.sz (fun y c e z=>?_) (fun p hp z=>?_) hn hq
  ·obtain⟨v,k⟩:=I3.cell y c e
   exact absurd k.lt (by rw[z];exact cC _)
  ·exact absurd (aQ (I3.pin p hp).1) (by rw[z];exact cC _)
 have fpX:∀{H':Hp},(∀b∈fp,H' b=none)->∀b∈fp,adY (aaN X (xs++N') scope cl s3.heap.objs.size fp pins s3 H3) [] H' b:=fun {H'} hn b hb=>by
  obtain⟨⟨f0,f1,f2,f3,f4,f5⟩,flt⟩:=hfp3 b hb
  refine⟨hn b hb,aV flt,fun z=>?_,.inl hb,fun y c e=>f4 y c (hcl.sub y c e),fun p hp=>?_⟩
  ·rcases aR.mp (I3.stkSub b z) with z | z
   ·exact f1 z
   ·exact f2 z
  ·have hp:p∈(X.pn++pins)++[]:=hp
   rw[bS] at hp
   exact f5 p hp
 have loop:∀s₄:Shared,s₄={s3 with heap:=h₁,toks:=s3.toks+([]:List (Str×Value)).length}->
   codeAny (model X.prog X.w) X.A (.compLoop (.ListComp elt [⟨tg,iter,ifs,0⟩] scope pos) 0 (.ref it) (.ref D) (compEnvC scope cl s3.heap.objs.size X.env)) (RR (.ref D) s3.heap.objs.size) s₄:=by
  rintro s₄ rfl
  refine alO rfl (fun n s'=>∃i τ H',τ.length=xs.length/\Inv (aaN X (xs++N') scope cl s3.heap.objs.size fp pins s3 H3) [] (τ++aaW js σ) H' s'/\tn i s'.heap/\(∀b∈fp,H' b=none)/\W i n H') ?_ m0 ⟨0,List.replicate xs.length none,H3,c7,J4,st4,fun b hb=>(hfp3 b hb).1.1,w0⟩
  rintro n s5 ⟨i,τ,H5,hτ,J5,st5,fr5,w5⟩
  rcases turn i n H5 w5 with ⟨stop,qn⟩ | ⟨go,step⟩
  ·refine dO (T.done (aaN X (xs++N') scope cl s3.heap.objs.size fp pins s3 H3) rfl rfl rfl hc i [] s5 _ H5 (fun _ _=>False) J5 (fpX fr5) st5 stop) (fun r s6 ⟨hr,J6⟩=>?_) fun _ _ z=>z.elim
   subst hr
   exact cell' J6 qn
  ·refine dO (T.item (aaN X (xs++N') scope cl s3.heap.objs.size fp pins s3 H3) rfl rfl rfl hc i [] s5 _ H5 (fun _ _=>False) J5 (fpX fr5) st5 go) (fun r s6 ⟨u,hr,h6⟩=>?_) fun _ _ z=>z.elim
   subst hr
   refine dO h6 (fun _ s6' h6'=>?_) fun _ _ z=>z.elim
   obtain⟨v,H6,J6,r6,y6,st6,fr6⟩:=h6'
   clear h6
   have J6':=J6.pinned (fpX fr6) (T.obj _ _ st6)
   show wpAny _ _ (assign tg _ u) _ _ _
   refine dO (hg _ _ _ _ _ _ s6' _ H6 v u _ J6' r6 (step v H6 y6 τ hτ)) (fun _ s7 h7=>?_) fun _ _ z=>z.elim
   obtain⟨_,H7,J7,⟨τ',hτ',rfl⟩,q7⟩:=h7
   have again:∀{σ8:St} {H8:Hp} {s8:Shared},Inv (aaN X (xs++N') scope cl s3.heap.objs.size fp pins s3 H3) ([]++ag1 fp s6'.heap) σ8 H8 s8->tn (i+1) s8.heap/\∀b∈fp,H8 b=none:=fun {σ8 H8 s8} J8=>by
    refine⟨T.keep _ _ _ st6 fun b hb o e=>(J8.pin (b,o) (bV _ (bV _ (ab7 hb e)))).1,fun b hb=>?_⟩
    obtain⟨o,e,d⟩:=T.obj _ _ st6 b hb
    exact (J8.pin (b,o) (bV _ (bV _ (ab7 hb e)))).2.1
   refine dO (ht _ _ _ _ _ _ s7 _ H7 _ J7 q7) (fun ok s8 ⟨H8,J8,q8⟩=>?_) fun _ _ z=>z.elim
   cases ok with
   |false=>
    obtain⟨m',hm,w8⟩:=(show ∃m',m'<n/\W (i+1) m' H8 from q8)
    obtain⟨a1,a2⟩:=again J8
    exact⟨m',hm,i+1,τ',H8,hτ',J8.unpinned,a1,a2,w8⟩
   |true=>
    refine dO (he _ _ _ _ _ _ s8 _ H8 _ J8 q8) (fun y s9 ⟨z,H9,J9,r9,ys,hys,hlen,m',hm,w9⟩=>?_) fun _ _ z=>z.elim
    refine dO (aiM (X:=aaN X (xs++N') scope cl s3.heap.objs.size fp pins s3 H3) _ s9 _ H9 (.ref D) [z] (.ref D) [y] (fun _ H10=>H10=upd H9 D (.lst (ys++[z]))) J9 rfl (.cons r9 .nil) ⟨D,ys,z,rfl,rfl,hys,hlen,rfl⟩) (fun _ s10 ⟨_,H10,J10,_,e10⟩=>?_) fun _ _ z=>z.elim
    subst e10
    obtain⟨a1,a2⟩:=again J10
    exact⟨m',hm,i+1,τ',_,hτ',J10.unpinned,a1,a2,w9⟩
 exact codeAny_compStart_list (loop _ rfl) (T.self _ 0 _ _ _ st4 (loop _ rfl))
theorem ayT(hcl:Clos X scope cl)(hnd:(xs++N').Nodup)(hN:js.map (fun j=>X.N[j]?)=N'.map some)
  (hk:N'.all (fun y=>(X.env.kindOf y==some .cell)||(X.env.kindOf y==some .free))=true) (hf:N'.all (fun y=>scope.names.lookup y==some .free)=true) (hc:X.calm=true)
  (hi:PI X (tg) iter wi)
  (hg:∀(C:Addr) (ex:List Addr) (pins:List (Addr×Obj)) (s:Shared) (H:Hp),PG (aaN X (xs++N') scope cl C ex pins s H) tg g)
  (ht:∀(C:Addr) (ex:List Addr) (pins:List (Addr×Obj)) (s:Shared) (H:Hp),PF (aaN X (xs++N') scope cl C ex pins s H) ifs tt)
  (he:∀(C:Addr) (ex:List Addr) (pins:List (Addr×Obj)) (s:Shared) (H:Hp),PE (aaN X (xs++N') scope cl C ex pins s H) elt te)
  (hs:∀x,foldedSetIterable iter X.env x=pure x:=by intro _;rfl):
  PE X (.ListComp elt [⟨tg,iter,ifs,0⟩] scope pos) (az5 wi xs.length js g tt te):=by
 intro pins s σ H Q I h
 rw[eval_ListComp]
 refine wpAny_comprehension_free (use:=none) rfl hs hcl.is hcl.kind hcl.names (thn (hi pins s σ H _ I h) fun xv s₁ h₁=>thn h₁ fun itv s₂ h₂=>?_)
 obtain⟨it,fp,tn,J,H2,rfl,I2,T,st,hfp,q⟩:=h₂
 refine asG (RR:=fun acc C=>compPost (model X.prog X.w) X.A X.xe none (EP X pins σ Q) acc C) hcl hnd hN hk hf hc hg ht he I2 T st hfp q ?_
 intro D C s' H' m I' hC0 hCL hCs hCc hCp hn hq
 refine⟨m,hn,fun h' sb=>⟨.ref D,H',?_,rfl,hq⟩⟩
 exact I'.turned (t':=s'.toks) (fun b o hb e=>(sb.2 b hb).trans e) hC0 hCL (.inr hCs) hCc hCp
theorem aA7(xs N':List Str)(js:List Nat)(hi:Il X (tg) iter wi)
  (hg:∀(cl:List (Str×Addr)) (C:Addr) (ex:List Addr) (pins:List (Addr×Obj)) (s:Shared) (H:Hp),Gt (aaN X (xs++N') scope cl C ex pins s H) tg g)
  (ht:∀(cl:List (Str×Addr)) (C:Addr) (ex:List Addr) (pins:List (Addr×Obj)) (s:Shared) (H:Hp),Fs (aaN X (xs++N') scope cl C ex pins s H) ifs tt)
  (he:∀(cl:List (Str×Addr)) (C:Addr) (ex:List Addr) (pins:List (Addr×Obj)) (s:Shared) (H:Hp),E (aaN X (xs++N') scope cl C ex pins s H) elt te)
  (hcl:∃cl,Clos X scope cl:=by exact ao8 rfl rfl rfl rfl) (hnd:(xs++N').Nodup:=by decide +kernel) (hN:js.map (fun j=>X.N[j]?)=N'.map some:=by rfl)
  (hk:N'.all (fun y=>(X.env.kindOf y==some .cell)||(X.env.kindOf y==some .free))=true:=by rfl) (hf:N'.all (fun y=>scope.names.lookup y==some .free)=true:=by rfl) (hc:X.calm=true:=by rfl)
  (hs:∀x,foldedSetIterable iter X.env x=pure x:=by intro _;rfl):E X (.ListComp elt [⟨tg,iter,ifs,0⟩] scope pos) (az5 wi xs.length js g tt te):=by
 obtain⟨cl,hcl⟩:=hcl
 exact⟨ayT hcl hnd hN hk hf hc hi.h (fun C ex pins s H=>(hg cl C ex pins s H).h) (fun C ex pins s H=>(ht cl C ex pins s H).h) (fun C ex pins s H=>(he cl C ex pins s H).h) hs⟩
end
section
variable{js:List Nat}{σ:St}{tt:TT}{te:TE}{Q:VK}{H1:Hp}
theorem at1{K K':FG}{a:Addr}{xs:List V}(R:Nat->List V->Prop)(hn:xs.length<=sizeLine)(h0:R 0 [])(hq:SqL K H1 a xs)
  (hs:∀(i:Nat) (v:V) (l:List V) (D:Addr) (H2:Hp) (E:V->Hp->Prop) (F:Hp->Prop),xs[i]? =some v->R i l->H1 D=none->Same H1 H2->H2 D=some (.lst l)->(∀y H5,Same H2 H5->R (i+1) (l++[y])->E y H5)->(∀H4,Same H2 H4->R (i+1) l->F H4)->
   ∃(p:Addr) (x y:V),v=.ref p/\SqT K' H2 p [x,y]/\tt (some x::some y::aaW js σ) H2 fun b H4=>if b=true then te (some x::some y::aaW js σ) H4 E else F H4)
  (hd:∀(D:Addr) (H2:Hp) (l:List V),R xs.length l->H1 D=none->Same H1 H2->H2 D=some (.lst l)->Q (.ref D) H2):
  au2 (Itl K a) 2 js (azG K' 2 (aoH (acO 0) (aoH (acO 1) aBM))) σ tt te Q H1:=by
 intro D hD
 refine⟨fun i m H2=>m=xs.length-i/\i<=xs.length/\Same H1 H2/\∃l,H2 D=some (.lst l)/\l.length<=i/\R i l,⟨xs.length,by simp,aZ _,aaB hD _,[],aaA,aO _,h0⟩,?_⟩
 rintro i m H2 ⟨rfl,hi,s2,l,h2,hll,hR⟩
 by_cases hlt:i<xs.length
 ·refine .inr ⟨⟨xs,xs[i],s2.seq hq,by simp[hlt]⟩,fun v H3 y τ hτ=>?_⟩
  obtain⟨e,ev⟩:=y
  subst e
  have hv:=ev xs (s2.seq hq)
  obtain⟨t0,t1,rfl⟩:∃t0 t1,τ=[t0,t1]:=by
   match τ,hτ with
   |[a,b],_=>exact⟨a,b,rfl⟩
  have aux1:∀z H5,Same H3 H5->R (i+1) (l++[z])->(fun y H5=>∃ys,H5 D=some (.lst ys)/\ys.length<sizeLine/\∃m',m'<xs.length-i/\(m'=xs.length-(i+1)/\i+1<=xs.length/\Same H1 (upd H5 D (.lst (ys++[y])))/\∃l,(upd H5 D (.lst (ys++[y]))) D=some (.lst l)/\l.length<=i+1/\R (i+1) l)) z H5:=fun z H5 s5 r5=>by
   refine⟨l,s5 _ _ h2,dA hll (aX hlt hn),xs.length-(i+1),by omega,rfl,hlt,fun b o hb=>?_,l++[z],aaA,by rw[aP,bL];omega,r5⟩
   rw[aaH (aaL hb hD)]
   exact s5 _ _ (s2 _ _ hb)
  have aux2:∀H4,Same H3 H4->R (i+1) l->(fun H4=>∃m',m'<xs.length-i/\(m'=xs.length-(i+1)/\i+1<=xs.length/\Same H1 H4/\∃l,H4 D=some (.lst l)/\l.length<=i+1/\R (i+1) l)) H4:=fun H4 s4 r4=>⟨xs.length-(i+1),by omega,rfl,hlt,s2.trans s4,l,s4 _ _ h2,by omega,r4⟩
  obtain⟨p,x,y,rfl,hp,h⟩:=hs i v l D _ (fun y H5=>∃ys,H5 D=some (.lst ys)/\ys.length<sizeLine/\∃m',m'<xs.length-i/\(m'=xs.length-(i+1)/\i+1<=xs.length/\Same H1 (upd H5 D (.lst (ys++[y])))/\∃l,(upd H5 D (.lst (ys++[y]))) D=some (.lst l)/\l.length<=i+1/\R (i+1) l)) (fun H4=>∃m',m'<xs.length-i/\(m'=xs.length-(i+1)/\i+1<=xs.length/\Same H1 H4/\∃l,H4 D=some (.lst l)/\l.length<=i+1/\R (i+1) l)) hv hR hD s2 h2 (fun z H5 s5 r5=>aux1 z H5 s5 r5) (fun H4 s4 r4=>aux2 H4 s4 r4)
  exact⟨p,[x,y],rfl,hp,rfl,x,[y],rfl,y,[],rfl,rfl,⟨[some x,some y],rfl,rfl⟩,h⟩
 ·have e:i=xs.length:=by omega
  subst e
  exact .inl ⟨⟨xs,s2.seq hq,aO _⟩,hd D H2 l hR hD s2 h2⟩
end
theorem aHW{X:Cx}{pos:Pos}{K:FG}{es:List Expr}{k n:Nat}{t:TGs}(h:Gts X es t)(hK:X.K=K:=by rfl)(hc:X.calm=true:=by rfl)(hn:(assignEach es X.env).length=n:=by rfl)(hst:(assignEach es X.env).findIdx? (·.1)=none:=by rfl):Gt X (.Tuple es k pos) (azG K n t):=by
 subst hK
 exact gTu h hc hn hst
noncomputable abbrev TF:=List Nat->TE
noncomputable def PFm(X:Cx)(vs:List Expr)(t:TF):Prop:=
 ∀(pins:List (Addr×Obj)) (s:Shared) (σ:St) (H:Hp) (out:List Nat) (Q:VK),Inv X pins σ H s->out.length<=sizeLine->t out σ H Q->
  wpAny (model X.prog X.w) X.A (joinParts (Tx out) (evalEach vs X.env)) (EP X pins σ Q) X.xe s
structure Fm(X:Cx)(vs:List Expr)(t:TF):Prop where
 h:PFm X vs t
noncomputable def tfN:TF:=fun out _ H Q=>Q (.str (Tx out)) H
noncomputable def tfL(l:List Nat)(tr:TF):TF:=fun out σ H Q=>(out++l).length<=sizeLine/\tr (out++l) σ H Q
noncomputable def tfI(te:TE)(tr:TF):TF:=fun out σ H Q=>te σ H fun v H1=>∃n:Nat,v=.int n/\n<10^500/\(out++num n).length<=sizeLine/\tr (out++num n) σ H1 Q
theorem azX(a b:List Nat):Tx a++Tx b=Tx (a++b):=by show Str.mk _=Str.mk _;simp
section
variable{X:Cx}
theorem fmN:Fm X [] tfN:=by
 refine⟨fun pins s σ H out Q I ho h=>?_⟩
 show wpAny _ _ (joinParts (Tx out) []) _ _ _
 exact joinParts_nil ⟨.str (Tx out),H,I.tok _,⟨_,rfl⟩,h⟩ (by rw[abC];exact ho)
theorem fmL{z:Str}{j}{pos:Pos}{vs:List Expr}{tr:TF}(l:List Nat)(hr:Fm X vs tr)(hz:z=Tx l:=by decide +kernel):Fm X (.Constant (.str z) j pos::vs) (tfL l tr):=by
 subst hz
 refine⟨fun pins s σ H out Q I ho h=>?_⟩
 obtain⟨h1,h2⟩:=h
 show wpAny _ _ (joinParts (Tx out) (eval _ X.env::evalEach vs X.env)) _ _ _
 refine joinParts_cons (thn (au6 pins s σ H (fun v H1=>v=.str (Tx l)/\H1=H) I ⟨rfl,rfl⟩) fun u s1 ⟨v,H2,I1,r1,e1,e2⟩=>?_)
 subst e1 e2
 obtain⟨t,rfl⟩:=r1
 show (Tx out++Tx l).length<=sizeLine/\_
 rw[azX]
 exact⟨by rw[abC];exact h1,hr.h pins s1 σ _ (out++l) Q I1 h1 h2⟩
theorem ax4{n:Nat}(hn:n<10^500):(n:Int).natAbs.log2<1920:=by
 by_cases h0:n=0
 ·subst h0;decide
 ·have:n<2^1900:=aX hn (by decide +kernel)
  have:=(Nat.log2_lt h0).mpr this
  simp only[Int.natAbs_natCast]
  omega
theorem aqC(n:Nat):PySem.Str.ofString (toString (n:Int))=Tx (num n):=by
 rw[←azJ (PySem.Str.ofString (toString (n:Int)))]
 exact congrArg (fun z=>Tx z) (PySem.W.KIN.signs_num n)
theorem fmI{e:Expr}{pos:Pos}{vs:List Expr}{te:TE}{tr:TF}(he:E X e te)(hr:Fm X vs tr):Fm X (.FormattedValue e (-1) none pos::vs) (tfI te tr):=by
 refine⟨fun pins s σ H out Q I ho h=>?_⟩
 show wpAny _ _ (joinParts (Tx out) (eval _ X.env::evalEach vs X.env)) _ _ _
 refine joinParts_cons (FormattedValue_plain (thn (he.h pins s σ H _ I h) fun u s1 ⟨v,H2,I1,r1,n,e1,hn,h1,h2⟩=>?_))
 subst e1
 obtain⟨t,rfl⟩:=r1
 refine formatField_int_small (ax4 hn) ?_
 show (Tx out++PySem.Str.ofString (toString (n:Int))).length<=sizeLine/\wpAny _ _ (joinParts (Tx out++PySem.Str.ofString (toString (n:Int))) _) _ _ _
 rw[aqC,azX]
 exact⟨by rw[abC];exact h1,hr.h pins _ σ _ (out++num n) Q ((I1.tok _).tok _) h1 h2⟩
theorem eFm{v1 v2:Expr}{vs:List Expr}{pos:Pos}{t:TF}(h:Fm X (v1::v2::vs) t):E X (.JoinedStr (v1::v2::vs) pos) (t []):=by
 refine⟨fun pins s σ H Q I hw=>?_⟩
 exact JoinedStr_many (h.h pins s σ H [] Q I (aZ _) hw)
end
section
variable{X:Cx}{elt iter tg:Expr}{xs:List Str}{y:Str}{py pos spos:Pos}{ifs:List Expr}{scope:Scope}{cl:List (Str×Addr)}{N':List Str}{js:List Nat}{tt:TT}{te:TE}{g:TG}{wi:TI}
end
end L2
namespace L2
open PySem PySem.Spec PyProof.Rows PySem.SeqAt
section
variable{X:Cx}
end
section
variable{M:Model}{A:Around}{E:Value->Shared->Prop}{s:Shared}{f:Obj->Prop}{B:Heap}{env:Env}{outer l:List Env}{L e:Addr}{fl:Value}{Q:Unit->Shared->Prop}
end
theorem ObjOk.at{P:Program}{w:World}{H:Hp}{h:Heap}{a:Addr}{o:HO}(x:ObjOk P w H h a o):∃ob,h.get? a=some ob:=by
 induction o with
 |lst xs=>obtain⟨_,_,_,_,e⟩:=x;exact⟨_,e⟩
 |tup xs=>obtain⟨_,_,_,ob,e,_⟩:=x;exact⟨_,e⟩
 |dK kvs=>obtain⟨_,_,_,_,ob,_,_,e,_⟩:=x;exact⟨_,e⟩
 |dT kvs=>obtain⟨_,_,_,_,ob,_,_,e,_⟩:=x;exact⟨_,e⟩
 |set S n=>obtain⟨ob,_,_,_,e,_⟩:=x;exact⟨_,e⟩
 |ins C dx fs=>obtain⟨_,_,_,e,_⟩:=x;exact⟨_,e⟩
 |own y=>exact x
 |xd fs=>obtain⟨_,⟨ob,_,_,e,_⟩,_⟩:=x;exact⟨_,e⟩
 |rng lo hi=>obtain⟨_,_,_,e⟩:=x;exact⟨_,e⟩
 |frz ob u ih=>exact⟨_,x.1⟩
 |tbl ps=>exact⟨_,x⟩
 |met f y=>exact⟨_,x⟩
 |ext φ=>exact x.2.1
noncomputable def Ex(C:Addr)(d:Option Addr)(b:Bool)(o:Obj):Prop:=o.cls=.ref C/\o.dict=d/\∃vs,o.data=.fields vs/\(b=true->vs[2]? =some .none)
noncomputable def wc(C:Addr):Value:=.int C 0
noncomputable def cv(C:Addr):Bool->Value
 |true=>.ref C
 |false=>wc C
noncomputable def Fly(g h:Heap)(H:Hp)(a C:Addr)(d:Option Addr)(b:Bool):Prop:=
 H a=none/\g.get? a=none/\∃(o:Obj) (vs:Array Value) (T:Addr) (oT:Obj) (ts:Array Value),(h.get? a=some o/\o.data=.fields vs/\vs[1]? =some (.ref T)/\Ex C d b o)/\
  (h.get? T=some oT/\oT.data=.fields ts/\ts[3]? =some .none)/\(H T=none/\g.get? T=none)/\T≠a
noncomputable def CX1(P:Program)(w:World):CXT:=fun outer H s E e s'=>
 ∃a C d b H',e=.ref a/\s'.os=s.os/\AllBare s'.gens/\Un (frs outer) [] H H' s.heap s'.heap/\HOk P w H' s'.heap/\Fly s.heap s'.heap H' a C d b/\E (cv C b) d H'
section
variable{P:Program}{w:World}{K:FG}{mg:Str->Option Value}{base:Heap}{N:List Str}{qual:Str}{scope:Scope}{f:Addr}{cd:Value}{A:Around}{outer:List Env}{s0:Shared}{H0:Hp}{E:XK}
end
noncomputable abbrev aIK:List Value:=[.type "ValueError",.type "Exception",.type "BaseException",.type "object"]
structure Xc(K:FG)(mg:Str->Option Value)(x:Str)(C:Addr):Prop where
 m:mg x=some (.ref C)
 n:PySem.W.nsIn K mainGlobals x=some (some (.ref C))
 q:PySem.W.excIn K C aIK "ValueError.__new__"=true
theorem Mod.top{K:FG}{mg:Str->Option Value}{base:Heap}(m:Mod K mg base)(p:Program):∃loose mb,PySem.W.TopRead p loose mg mb base:=by
 obtain⟨mb,b1,b2⟩:=m.blt
 obtain⟨o,es,ep,ho,hd,hk,hf⟩:=id m.glob
 refine⟨es.toList.filterMap fun e=>match e.key with | .str y _=>some y | _=>none,mb,m.glob,b1,m.nolimit,b2,fun x _ hx _ _ _=>?_⟩
 rw[←hf]
 have none_:es.find? (fun e=>e.key.isStr x)=none:=by
  rw[Array.find?_eq_none]
  intro e he hs
  obtain⟨y,t,ek⟩:=hk e he
  refine hx (dE.mpr ⟨e,by simpa using he,?_⟩)
  rw[ek] at hs ⊢
  have:y=x:=by simpa [Value.isStr] using hs
  rw[this]
 show (es.find? fun e=>e.key.isStr x).map (·.val)=none
 rw[none_]
 rfl
theorem Xc.own{K:FG}{mg:Str->Option Value}{base:Heap}{x:Str}{C:Addr}(c:Xc K mg x C)(m:Mod K mg base)(p:Program):OwnCls x C aIK "ValueError.__new__" mg base:=by
 obtain⟨loose,mb,T⟩:=m.top p
 exact PySem.W.own_of_in m.kin T c.n c.q
section
variable{X:Cx}{E:XK}{x:Str}{C:Addr}{e:Expr}{es:List Expr}{t:TA}{np cpos pos:Pos}
end
section
variable{P:Program}{w:World}{K:FG}{mg:Str->Option Value}{base:Heap}{N:List Str}{qual:Str}{scope:Scope}{f:Addr}{cd:Value}{A:Around}{outer:List Env}{s0:Shared}{H0:Hp}{E:XK}
end
section
variable{P:Program}{w:World}{K:FG}{mg:Str->Option Value}{base:Heap}{x:Str}{st:Stmt}{ps N:List Str}{k:Nat}{sp:Sp}
end
noncomputable def XP(X:Cx)(pins:List (Addr×Obj))(σ:St)(E:XK)(e:Value)(s':Shared):Prop:=∃s1 H1,Inv X pins σ H1 s1/\CX1 X.prog X.w X.stack H1 s1 E e s'
noncomputable abbrev TX:=St->Hp->VK->XK->Prop
noncomputable abbrev TB:=Ends->St->Hp->XK->Prop
section
variable{X:Cx}{k k':Nat}{ps:List Str}{sp:Sp}{x:Str}{e:Expr}{es:List Expr}{tA:TA}{p pos:Pos}{t:TX}
end
section
variable{X:Cx}{pins:List (Addr×Obj)}{σ:St}{H:Hp}{s:Shared}
end
noncomputable def xo(a C:Addr)(d:Option Addr)(b:Bool):HO:=.ext fun h=>∃o,h.get? a=some o/\Ex C d b o
section
variable{X:Cx}{body suite:List Stmt}{b0:Stmt}{tb:TB}{th:Addr->TS}{cx n:Str}{np hpos pos:Pos}{CF:Addr}
end
section
variable{X:Cx}{E:XK}{x:Str}{C:Addr}{e:Expr}{es:List Expr}{tA:TA}{np cpos pos p:Pos}{k k':Nat}{ps:List Str}{sp:Sp}
end
section
open PySem.W
variable{prog:Program}{w:World}{A:Around}{E:Value->Shared->Prop}{s:Shared}{K:FG}{a C:Addr}
open Builtin Builtin.ObjectAttr Builtin.Getset_descriptor in
open Builtin Builtin.ObjectAttr in
end
section
variable{X:Cx}{body suite:List Stmt}{b0:Stmt}{tb:TB}{th:Addr->TS}{cx:Str}{np hpos pos:Pos}{CF:Addr}
end
section
variable{prog:Program}{w:World}{A:Around}{E:Value->Shared->Prop}{s:Shared}{e C a:Addr}{d:Option Addr}
end
section
variable{prog:Program}{w:World}{A:Around}{E:Value->Shared->Prop}{s:Shared}{env:Env}{e C a:Addr}{d:Option Addr}
end
section
variable{P:Program}{w:World}{K:FG}{mg:Str->Option Value}{base:Heap}{N:List Str}{qual:Str}{scope:Scope}{f:Addr}{cd:Value}{A:Around}{outer:List Env}{s0:Shared}{H0:Hp}{E:XK}
end
section
variable{X:Cx}{E:XK}{x:Str}{C a:Addr}{e:Expr}{es:List Expr}{t:TA}{np cpos pos p2:Pos}{j:Nat}
end
section
variable{X:Cx}{pos:Pos}{o i:Expr}{to ti:TE}
end
section
variable{X:Cx}
end
section
variable{js:List Nat}{σ:St}{tt:TT}{te:TE}{Q:VK}{H1:Hp}
end
noncomputable def af2(l:List Nat)(lo hi:Option Int):List Nat:=(l.drop (HT.sIx l.length 0 lo)).take (HT.sIx l.length l.length hi-HT.sIx l.length 0 lo)
theorem aDO(v:Option Int)(n d:Nat):(match v with | none=>(d:Int) | some i=>max 0 (min (if i<0 then i+(n:Int) else i) (n:Int)))=((HT.sIx n d v:Nat):Int):=by
 cases v with
 |none=>rfl
 |some i=>
  show max 0 (min (if i<0 then i+(n:Int) else i) (n:Int))=(((if i<0 then (i+(n:Int)).toNat else min i.toNat n):Nat):Int)
  by_cases h:i<0
  ·rw[if_pos h,if_pos h];omega
  ·rw[if_neg h,if_neg h];omega
theorem az9(lo hi:Option Int)(n:Nat):Builtin.Str.strSliceIndices lo hi 1 n=sliceRange ((HT.sIx n 0 lo:Nat):Int) ((HT.sIx n n hi:Nat):Int) 1:=by
 unfold Builtin.Str.strSliceIndices
 simp only[show ((1:Int)>0)=True from by simp,if_true]
 rw[←aDO lo n 0,←aDO hi n n]
 cases lo<;>cases hi<;>rfl
theorem asF(a b:Nat):sliceRange (a:Int) (b:Int) 1=(List.range (b-a)).map fun k=>a+k:=by
 rcases cA a b with c | c
 ·have up:(a:Int)<b:=by omega
  have many:(((b:Int)-a+1-1) / 1).toNat=b-a:=by rw[Int.ediv_one];omega
  have e:∀k:Nat,((a:Int)+1*(k:Int)).toNat=a+k:=fun k=>by omega
  simp only[sliceRange,gt_iff_lt,Int.one_pos,if_true,up,many,e]
 ·have no:¬((a:Int)<b):=by omega
  have z:b-a=0:=by omega
  simp only[sliceRange,gt_iff_lt,Int.one_pos,if_true,no,if_false,z,List.range_zero,List.map_nil]
  rfl
theorem axG(l:List Nat)(n a:Nat):((List.range n).map fun k=>a+k).filterMap (fun i=>(Tx l).cps[i]?)=(l.drop a).take n:=by
 rw[List.filterMap_map]
 induction n with
 |zero=>rw[List.take_zero];rfl
 |succ n ih=>
  have one:[n].filterMap ((fun i=>(Tx l).cps[i]?) ∘ fun k=>a+k)=(l[a+n]?).toList:=by
   show List.filterMap _ [n]=_
   cases e:l[a+n]? <;>simp[e]
  rw[List.range_succ,cT,ih,one,List.take_add_one,List.getElem?_drop]
theorem aFS(l:List Nat)(lo hi:Option Int):(Builtin.Str.strSliceIndices lo hi 1 l.length).filterMap (fun i=>(Tx l).cps[i]?)=af2 l lo hi:=by
 rw[az9,asF,axG]
 rfl
theorem axD(l:List Nat)(lo hi:Option Int)(h:(Builtin.Str.strSliceIndices lo hi 1 l.length).length=l.length):af2 l lo hi=l:=by
 rw[az9,asF,aM,cL] at h
 have h1:=HT.sIx_le l.length l.length (aO _) hi
 have e1:HT.sIx l.length 0 lo=0∨l.length=0:=by omega
 unfold af2
 rcases e1 with e | e
 ·rw[e]
  have:HT.sIx l.length l.length hi=l.length:=by omega
  rw[this]
  simp
 ·have:l=[]:=List.eq_nil_of_length_eq_zero e
  subst this
  simp
theorem ahB(l:List Nat)(lo hi:Option Int):(af2 l lo hi).length<=l.length:=by
 unfold af2
 rw[cS,List.length_drop]
 omega
section
variable{X:Cx}
noncomputable def rSlX:V->Option Int->Option Int->Hp->VK->Prop:=fun x lo hi H Q=>∃l:List Nat,x=.str (Tx l)/\l.length<=sizeLine/\Q (.str (Tx (af2 l lo hi))) H
theorem slX:Sls X rSlX:=by
 refine⟨fun pins s σ H x v vl vu lo hi sl Q I rx hs pl pu h=>?_⟩
 obtain⟨l,rfl,hz,q⟩:=h
 obtain⟨t,rfl⟩:=rx
 refine⟨"str",_,PySem.F.slot_str_getitem.lookup,typeIs_str _ _ _,?_⟩
 obtain⟨o,ho,hc,hd⟩:=hs
 have fin:∀(a b:Option (Int×Tok)),o.data=.fields #[partValue a,partValue b,.none]->a.map (·.1)=lo->b.map (·.1)=hi->wpAny (model X.prog X.w) X.A (getItem (.str (Tx l) t) (.ref sl)) (EP X pins σ Q) X.xe s:=fun a b hd ea eb=>by
  refine wpAny_getItem_str_slice (l:=a) (u:=b) (st:=none) ⟨o,ho,hc,hd⟩ rfl ?_
  have ep:slicePicked (Tx l) a b none=Builtin.Str.strSliceIndices lo hi 1 l.length:=by unfold slicePicked;rw[ea,eb,abC];rfl
  unfold sliceMade
  rw[ep]
  split
  ·next hw=>
   have hw2:(Builtin.Str.strSliceIndices lo hi 1 l.length).length=l.length:=by
    have:=(Bool.and_eq_true_iff.mp hw).2
    rw[abC] at this
    exact beq_iff_eq.mp this
   show EP X pins σ Q _ s
   rw[axD l lo hi hw2] at q
   exact⟨.str (Tx l),H,I,⟨t,rfl⟩,q⟩
  ·rw[aFS]
   exact⟨by rw[abC];exact bJ (ahB l lo hi) hz,⟨.str (Tx (af2 l lo hi)),H,I.tok _,⟨_,rfl⟩,q⟩⟩
 cases pl with
 |none=>
  cases pu with
  |none=>exact fin none none hd rfl rfl
  |int j tj=>exact fin none (some (j,tj)) hd rfl rfl
 |int i ti=>
  cases pu with
  |none=>exact fin (some (i,ti)) none hd rfl rfl
  |int j tj=>exact fin (some (i,ti)) (some (j,tj)) hd rfl rfl
noncomputable def two(n:Nat):List Nat:=(num (100+n)).drop 1
theorem aE3(m:Nat):num m≠[]:=fun e=>Nat.toDigits_ne_nil (cW.mp e)
end
section
variable{prog:Program}{w:World}{A:Around}{E:Value->Shared->Prop}{s:Shared}{I:Addr}{fp wr:List Addr}{G:Array GenState->Array GenState->Prop}{n:Nat}{P:Nat->Value->Prop}{St:Nat->Shared->Prop}
end
section
variable{X:Cx}{o e:Expr}{to te:TE}{p rpos apos cpos:Pos}
end
theorem agW{X:Cx}{e:Expr}{t u:TE}(h:E X e t)(h':E X e u):E X e (fun σ H Q=>t σ H Q∨u σ H Q):=
 ⟨fun pins s σ H Q I z=>z.elim (fun z=>h.h pins s σ H Q I z) fun z=>h'.h pins s σ H Q I z⟩
section
variable{X:Cx}
end
section
variable{κ:Type}[DecidableEq κ]
noncomputable def amA(kvs:List (κ×V))(k:κ):Option V:=(kvs.find? fun kv=>decide (kv.1=k)).map (·.2)
noncomputable def aBJ(kvs:List (κ×V))(k:κ)(v:V):List (κ×V):=
 if (kvs.any fun kv=>decide (kv.1=k))=true then kvs.map (fun kv=>if kv.1=k then (kv.1,v) else kv) else kvs++[(k,v)]
noncomputable def aDT(kvs:List (κ×V))(k:κ):List (κ×V):=kvs.filter fun kv=>decide (kv.1≠k)
theorem asE{p:κ×V}{r:List (κ×V)}{k:κ}(e:p.1=k):amA (p::r) k=some p.2:=by simp[amA,dC,e]
theorem atU{p:κ×V}{r:List (κ×V)}{k:κ}(e:¬p.1=k):amA (p::r) k=amA r k:=by simp[amA,dC,e]
theorem KV.val{kvs:List (κ×V)}{vs:List (κ×Value)}(r:KV kvs vs)(k:κ):RelO (amA kvs k) (valueAt vs k):=by
 unfold KV at r
 induction r with
 |nil=>exact True.intro
 |@cons p q ps qs h t ih=>
  obtain⟨h1,h2⟩:=h
  by_cases e:p.1=k
  ·have e':q.1=k:=h1.symm.trans e
   have b:valueAt (q::qs) k=some q.2:=by simp[valueAt,dC,e']
   rw[asE e,b];exact h2
  ·have e':¬q.1=k:=fun z=>e (h1.trans z)
   have b:valueAt (q::qs) k=valueAt qs k:=by simp[valueAt,dC,e']
   rw[atU e,b];exact ih
theorem KV.any{kvs:List (κ×V)}{vs:List (κ×Value)}(r:KV kvs vs)(k:κ):(kvs.any fun kv=>decide (kv.1=k))=vs.any fun kv=>decide (kv.1=k):=by
 unfold KV at r
 induction r with
 |nil=>rfl
 |cons h t ih=>rw[bW,bW,ih,h.1]
theorem KV.drop{kvs:List (κ×V)}{vs:List (κ×Value)}(r:KV kvs vs)(k:κ):KV (aDT kvs k) (without vs k):=by
 unfold KV at r ⊢
 unfold aDT without
 induction r with
 |nil=>exact .nil
 |@cons p q ps qs h t ih=>
  obtain⟨h1,h2⟩:=h
  rw[List.filter_cons,List.filter_cons]
  by_cases e:p.1=k
  ·have a:¬decide (p.1≠k)=true:=by simp[e]
   have b:¬decide (q.1≠k)=true:=by simp[h1.symm.trans e]
   rw[if_neg a,if_neg b];exact ih
  ·have e':¬q.1=k:=fun z=>e (h1.trans z)
   have a:decide (p.1≠k)=true:=by simp[e]
   have b:decide (q.1≠k)=true:=by simp[e']
   rw[if_pos a,if_pos b];exact .cons ⟨h1,h2⟩ ih
theorem KV.length{kvs:List (κ×V)}{vs:List (κ×Value)}(r:KV kvs vs):kvs.length=vs.length:=Paired.length r
end
theorem aDW{P:Program}{w:World}{k:Key}{u:Value}(r:RelV (kV k) u):(acS P w).is k u=true:=by
 cases k with
 |inl i=>obtain⟨t,e⟩:=(show ∃t,u=Value.int i t from r);subst e;exact asJ P w i t
 |inr x=>obtain⟨t,e⟩:=(show ∃t,u=Value.str x t from r);subst e;exact atX P w x t
theorem adI{P:Program}{w:World}:∀{ks:List Key} {us:List Value},Vals (ks.map kV) us->ItemsAre (acS P w) ks us
 |[],_,r=>by rw[List.map_nil] at r;cases r;exact .nil
 |k::ks,_,r=>by
  rw[bR] at r
  cases r with
  |cons h t=>exact .cons (aDW h) (adI t)
noncomputable abbrev KT(H:Hp):List (List Key×V)->List (List Key×Addr×Value)->Prop:=Paired fun p q=>p.1=q.1/\H q.2.1=some (.tup (p.1.map kV))/\RelV p.2 q.2.2
theorem KT.val{H:Hp}{kvs:List (List Key×V)}{xs:List (List Key×Addr×Value)}(r:KT H kvs xs)(k:List Key):RelO (amA kvs k) ((atKey xs k).map (·.2)):=by
 induction r with
 |nil=>exact True.intro
 |@cons p q ps qs h t ih=>
  obtain⟨h1,_,h2⟩:=h
  by_cases e:p.1=k
  ·have e':q.1=k:=h1.symm.trans e
   have b:atKey (q::qs) k=some q.2:=by simp[atKey,dC,e']
   rw[asE e,b];exact h2
  ·have e':¬q.1=k:=fun z=>e (h1.trans z)
   have b:atKey (q::qs) k=atKey qs k:=by simp[atKey,dC,e']
   rw[atU e,b];exact ih
theorem KT.keeps{H H':Hp}{kvs:List (List Key×V)}{xs:List (List Key×Addr×Value)}(r:KT H kvs xs)(ht:∀b ys,H b=some (.tup ys)->H' b=some (.tup ys)):KT H' kvs xs:=
 Paired.mapP r fun _ _ z=>⟨z.1,ht _ _ z.2.1,z.2.2⟩
section
variable{P:Program}{w:World}{H:Hp}{h:Heap}{a:Addr}
end
noncomputable def DGet(H:Hp)(a:Addr)(y:V)(r:Option V):Prop:=
 (∃kvs k,Rd H a (.dK kvs)/\y=kV k/\r=amA kvs k)∨∃kvs k b,Rd H a (.dT kvs)/\y=.ref b/\H b=some (.tup (k.map kV))/\r=amA kvs k
noncomputable def DPut(H:Hp)(a:Addr)(y v:V)(H':Hp):Prop:=
 (∃kvs k,H a=some (.dK kvs)/\y=kV k/\kvs.length<sizeLine/\H'=upd H a (.dK (aBJ kvs k v)))∨
 ∃kvs k b,H a=some (.dT kvs)/\y=.ref b/\H b=some (.tup (k.map kV))/\kvs.length<sizeLine/\H'=upd H a (.dT (aBJ kvs k v))
theorem DGet.k{H:Hp}{a:Addr}{kvs:List (Key×V)}{k:Key}(e:H a=some (.dK kvs)):DGet H a (kV k) (amA kvs k):=.inl ⟨kvs,k,.inl e,rfl,rfl⟩
theorem DGet.t{H:Hp}{a b:Addr}{kvs:List (List Key×V)}{k:List Key}(e:H a=some (.dT kvs))(eb:H b=some (.tup (k.map kV))):DGet H a (.ref b) (amA kvs k):=.inr ⟨kvs,k,b,.inl e,rfl,eb,rfl⟩
theorem DPut.k{H:Hp}{a:Addr}{kvs:List (Key×V)}{k:Key}{v:V}(e:H a=some (.dK kvs))(hl:kvs.length<sizeLine):DPut H a (kV k) v (upd H a (.dK (aBJ kvs k v))):=.inl ⟨kvs,k,e,rfl,hl,rfl⟩
theorem DPut.t{H:Hp}{a b:Addr}{kvs:List (List Key×V)}{k:List Key}{v:V}(e:H a=some (.dT kvs))(eb:H b=some (.tup (k.map kV)))(hl:kvs.length<sizeLine):
  DPut H a (.ref b) v (upd H a (.dT (aBJ kvs k v))):=.inr ⟨kvs,k,b,e,rfl,eb,hl,rfl⟩
section
variable{X:Cx}{pins:List (Addr×Obj)}{σ:St}{H:Hp}{s:Shared}{a:Addr}{y v:V}{u r:Value}{o:Option V}{A:Around}{E:Value->Shared->Prop}
end
section
variable{X:Cx}{pins:List (Addr×Obj)}{σ:St}{H:Hp}{s:Shared}{a:Addr}{kvs:List (Key×V)}{k:Key}{u:Value}{A:Around}{E:Value->Shared->Prop}
end
noncomputable def aPS(i:Expr):Prop:=∀ov iv,subscripted i false ov iv=operate [ov,iv] (getItem ov iv)
theorem aC0{prog:Program}{w:World}{A:Around}{E:Value->Shared->Prop}{s:Shared}{env:Env}{value slice:Expr}{pos:Pos}{T id:String}{Q:Value->Shared->Prop}
  (hl:typeLookup (.type T) "__getitem__"=pure (some (.builtin id))) (hs:aPS slice)
  (h:wpAny (model prog w) A (eval value env) (fun o s₁=>wpAny (model prog w) A (eval slice env) (fun i s₂=>s₂.TypeIs o T/\wpAny (model prog w) A (getItem o i) Q E s₂) E s₁) E s):
  wpAny (model prog w) A (eval (.Subscript value slice pos) env) Q E s:=by
 refine Subscript_ (dO h (fun o s₁ h₁=>dO h₁ (fun i s₂ h₂=>?_) fun _ _ x=>x) fun _ _ x=>x)
 obtain⟨hT,h₂⟩:=h₂
 unfold subscriptTail
 refine dN ?_
 rw[getitemInPython_of_ne hT.not_modules]
 refine dN (wpAny_specialOf hT hl ?_)
 have fin:wpAny (model prog w) A (subscripted slice false o i) (fun r s₃=>wpAny (model prog w) A (letTemporaryGo value o r >>=fun _=>pure r) Q E s₃) E s₂:=by
  rw[hs o i]
  exact wpAny_operating (dO h₂ (fun r s₃ h₃=>dN (wpAny_letTemporaryGo (eC h₃))) fun _ _ x=>x)
 first
  |exact eC (dN fin)
  |exact dN (eC (dN fin))
  |exact dN fin
section
variable{X:Cx}{o i e value:Expr}{pos pos' tpos:Pos}{td ty tv:TE}
end
section
variable{X:Cx}{pos:Pos}
end
section
variable{X:Cx}{pins:List (Addr×Obj)}{σ:St}{H:Hp}{s:Shared}{a:Addr}{y d:V}{u r:Value}{o:Option V}{A:Around}{E:Value->Shared->Prop}
end
section
variable{X:Cx}{o e f:Expr}{apos cpos:Pos}{td ty tx:TE}
end
section
variable{X:Cx}{pins:List (Addr×Obj)}{σ:St}{H:Hp}{s:Shared}{a:Addr}{kvs:List (Key×V)}{A:Around}{E:Value->Shared->Prop}
end
section
variable{X:Cx}{pins:List (Addr×Obj)}{σ:St}{H:Hp}{s:Shared}{a:Addr}{y:V}{u:Value}{A:Around}{E:Value->Shared->Prop}
end
section
variable{X:Cx}{k:Nat}{o i kx vx:Expr}{td ty tk tv:TE}{pos:Pos}{keys:List (Option Expr)}{values:List Expr}{trs:List (TE×TE)}
theorem aAV:Op2 X (binaryOp .Mult) aND:=⟨aEO⟩
end
noncomputable def Rise(xs:Array Nat):Prop:=xs.toList.Pairwise (·<·)
theorem Rise.lt{xs:Array Nat}(h:Rise xs){i k x y:Nat}(hi:xs[i]? =some x)(hk:xs[k]? =some y)(l:i<k):x<y:=by
 rw[←cE] at hi hk
 obtain⟨h1,e1⟩:=cF.mp hi
 obtain⟨h2,e2⟩:=cF.mp hk
 have:=List.pairwise_iff_getElem.mp h i k h1 h2 l
 rw[e1,e2] at this
 exact this
noncomputable def Cut(xs:Array Nat)(j r:Nat):Prop:=r<=xs.size/\(∀i x,i<r->xs[i]? =some x->x<j)/\∀i x,r<=i->xs[i]? =some x->j<=x
theorem amG{xs:Array Nat}{j:Nat}(hr:Rise xs):∀fuel lo hi:Nat,lo<=hi->hi<=xs.size->hi-lo<=fuel->(∀i x,i<lo->xs[i]? =some x->x<j)->(∀i x,hi<=i->xs[i]? =some x->j<=x)->Cut xs j (SetTable.below.go xs j fuel lo hi)
 |0,lo,hi,h1,h2,h3,a,b=>by
  have e:lo=hi:=by omega
  subst e
  exact⟨h2,a,b⟩
 |f+1,lo,hi,h1,h2,h3,a,b=>by
  unfold SetTable.below.go
  by_cases c:lo<hi
  ·rw[if_pos c]
   have hm:(lo+hi) / 2<xs.size:=by omega
   have em:xs[(lo+hi) / 2]? =some xs[(lo+hi) / 2]:=cI hm
   have eg:xs.getD ((lo+hi) / 2) j=xs[(lo+hi) / 2]:=by rw[Array.getD_eq_getD_getElem?,em];rfl
   dsimp only
   rw[eg]
   by_cases d:xs[(lo+hi) / 2]<j
   ·rw[if_pos d]
    refine amG hr f _ _ (by omega) h2 (by omega) (fun i x hl hx=>?_) b
    by_cases q:i=(lo+hi) / 2
    ·subst q
     rw[em] at hx
     cases hx
     exact d
    ·exact Nat.lt_trans (hr.lt hx em (by omega)) d
   ·rw[if_neg d]
    refine amG hr f _ _ (by omega) (by omega) (by omega) a fun i x hl hx=>?_
    by_cases q:i=(lo+hi) / 2
    ·subst q
     rw[em] at hx
     cases hx
     omega
    ·have:=hr.lt em hx (by omega)
     omega
  ·rw[if_neg c]
   have e:lo=hi:=by omega
   subst e
   exact⟨h2,a,b⟩
theorem aiV{xs:Array Nat}(hr:Rise xs)(j:Nat):Cut xs j (SetTable.below xs j):=
 amG hr _ _ _ (aZ _) (aO _) (aO _) (fun _ _ h=>absurd h (Nat.not_lt_zero _)) fun i x h hx=>by
  obtain⟨z,_⟩:=Array.getElem?_eq_some_iff.mp hx
  omega
theorem aBU{xs:Array Nat}{j:Nat}(hr:Rise xs)(h:(xs[SetTable.below xs j]? ==some j)=false):∀x∈xs.toList,x≠j:=fun x hx e=>by
 obtain⟨i,hi,ei⟩:=List.mem_iff_getElem.mp hx
 have e1:xs[i]? =some x:=by rw[←cE,bU hi,ei]
 subst e
 obtain⟨c1,c2,c3⟩:=aiV hr x
 have h1:¬i<SetTable.below xs x:=fun z=>cC _ (c2 i x z e1)
 by_cases q:i=SetTable.below xs x
 ·rw[←q,e1] at h
  simp at h
 ·have hs:SetTable.below xs x<xs.size:=by
   obtain⟨z,_⟩:=Array.getElem?_eq_some_iff.mp e1
   omega
  have e2:xs[SetTable.below xs x]? =some xs[SetTable.below xs x]:=cI hs
  have:=c3 _ _ (aO _) e2
  have:=hr.lt e2 e1 (by omega)
  omega
theorem ayP{α:Type}(xs:Array α)(p:Nat)(x:α):(SetTable.insertAt xs p x).toList=xs.toList.take p++x::xs.toList.drop p:=by
 unfold SetTable.insertAt
 simp[List.extract_eq_drop_take]
 exact dG (by rw[List.length_drop,bT];exact aO _)
theorem azH{xs:Array Nat}{j:Nat}(hr:Rise xs)(hn:∀x∈xs.toList,x≠j):Rise (SetTable.insertAt xs (SetTable.below xs j) j):=by
 obtain⟨c1,c2,c3⟩:=aiV hr j
 unfold Rise
 rw[ayP,List.pairwise_append,cX]
 have hlow:∀a∈xs.toList.take (SetTable.below xs j),a<j:=fun a ha=>by
  obtain⟨i,hi,e⟩:=List.mem_iff_getElem.mp ha
  rw[List.getElem_take] at e
  rw[cS] at hi
  have h2:i<xs.toList.length:=by omega
  exact c2 i a (by omega) (by rw[←cE,bU h2,e])
 have hhigh:∀b∈xs.toList.drop (SetTable.below xs j),j<b:=fun b hb=>by
  have hb':=List.mem_of_mem_drop hb
  obtain⟨i,hi,e⟩:=List.mem_iff_getElem.mp hb
  rw[List.getElem_drop] at e
  rw[List.length_drop] at hi
  have h2:SetTable.below xs j+i<xs.toList.length:=by omega
  have:=c3 (SetTable.below xs j+i) b (by omega) (by rw[←cE,bU h2,e])
  have:=hn b hb'
  omega
 refine⟨List.Pairwise.sublist (List.take_sublist _ _) hr,⟨hhigh,List.Pairwise.sublist (List.drop_sublist _ _) hr⟩,fun a ha b hb=>?_⟩
 rcases aR.mp hb with rfl | hb
 ·exact hlow a ha
 ·exact Nat.lt_trans (hlow a ha) (hhigh b hb)
theorem auC(n:Nat):Rise (Array.range n):=by
 unfold Rise
 rw[Array.toList_range]
 exact List.pairwise_lt_range
structure Tab(led:Bool)(t:SetTable):Prop where
 rise:Rise t.place
 dum:t.dummies= #[]
 led:t.led=led
theorem asI(j:Nat):SetTable.has #[] j=false:=by
 unfold SetTable.has
 simp
theorem ajF{t:SetTable}{led:Bool}(T:Tab led t){h:Int}:∀(f:Nat) (p:SetTable.Probe) (j:Nat) (d:Option Nat),p.dummy=none->SetTable.probe.go t (fun _=>h+1) h f p=some (.empty j d)->d=none/\(t.place[SetTable.below t.place j]? ==some j)=false
 |0,_,_,_,_,e=>by unfold SetTable.probe.go at e;cases e
 |f+1,p,j,d,hp,e=>by
  unfold SetTable.probe.go at e
  split at e
  ·next hs=>
   cases e
   refine⟨hp,?_⟩
   unfold SetTable.slot at hs
   dsimp only at hs
   split at hs
   ·cases hs
   ·next q=>simpa using q
  ·next hs=>
   unfold SetTable.slot at hs
   dsimp only at hs
   split at hs
   ·cases hs
   ·rw[T.dum,asI] at hs
    cases hs
  ·rw[if_neg (by simp;omega)] at e
   refine ajF T f _ j d ?_ e
   unfold SetTable.advance
   split
   ·exact hp
   ·exact hp
theorem afT{led:Bool}{t:SetTable}(T:Tab led t)(n:Nat):Tab led (t.standIn n):=⟨auC n,rfl,T.led⟩
theorem aE8{led:Bool}{t:SetTable}(T:Tab led t)(n:Nat):Tab led (t.orStandIn n):=by
 unfold SetTable.orStandIn
 split
 ·exact T
 ·exact afT T n
theorem aBO{led:Bool}{t:SetTable}(T:Tab led t)(es:Array (Int×Value))(h:Int)(x:Value):Tab led (layNew t es h x).2.1:=by
 unfold layNew
 split
 ·next slot wd hf=>
  dsimp only
  refine aE8 ?_ _
  unfold SetTable.freeSlot at hf
  split at hf
  ·next j d hp=>
   obtain⟨rfl,hn⟩:=ajF T _ _ j d rfl hp
   cases hf
   refine⟨azH T.rise (aBU T.rise hn),?_,T.led⟩
   show (if SetTable.has t.dummies j=true then _ else t.dummies)=_
   rw[T.dum,asI]
   rfl
  ·cases hf
 ·exact afT T _
theorem ax8{led:Bool}{t:SetTable}(T:Tab led t)(es:Array (Int×Value))(n:Nat):Tab led (relayAll t es n).2.1:=by
 unfold relayAll
 split
 ·next t' order hl=>
  dsimp only
  split
  ·unfold SetTable.relaid SetTable.laid at hl
   cases ho:SetTable.layClean (SetTable.sizeAbove n-1) (es.map (·.1)) with
   |none=>rw[ho] at hl;cases hl
   |some owner=>
    rw[ho] at hl
    cases hl
    refine⟨?_,rfl,T.led⟩
    unfold Rise
    dsimp only
    have key:∀(l:List Nat),l.Pairwise (·<·)->((l.filterMap fun j=>(owner.getD j none).map (j,·)).map (·.1)).Pairwise (·<·):=fun l hl=>by
     have e:(l.filterMap fun j=>(owner.getD j none).map (j,·)).map (·.1)=l.filter fun j=>(owner.getD j none).isSome:=by
      induction l with
      |nil=>rfl
      |cons a l ih=>
       have ih:=ih (cX.mp hl).2
       cases q:owner.getD a none with
       |none=>rw[List.filterMap_cons_none (by rw[q];rfl),List.filter_cons_of_neg (by rw[q];simp),ih]
       |some b=>rw[List.filterMap_cons_some (by rw[q];rfl),List.filter_cons_of_pos (by rw[q];rfl),bR,ih]
     rw[e]
     exact List.Pairwise.sublist List.filter_sublist hl
    exact key _ List.pairwise_lt_range
  ·exact afT T _
 ·exact afT T _
noncomputable def zOf:Value->Int
 |.int z _=>z
 |_=>0
noncomputable def acC(es:Array (Int×Value)):List Int:=es.toList.map fun e=>zOf e.2
noncomputable def as5(w:World):Bool:= !(w.params.followText "set-order")
structure SetE(prog:Program)(w:World)(es:Array (Int×Value))(t:SetTable):Prop where
 el:ElemsOf (intKind prog w) es.toList
 nd:(acC es).Nodup
 sz:es.size<scanBound
 fit:t.fits es.size=true
 tab:Tab (as5 w) t
noncomputable abbrev aaZ(es:Array (Int×Value))(ep:Nat)(t:SetTable):Obj:={cls:=.type "set",dict:=none,data:=.set es ep t,slots:= #[]}
section
variable{prog:Program}{w:World}{A:Around}{E:Value->Shared->Prop}{s:Shared}{a:Addr}{es:Array (Int×Value)}{ep:Nat}{t:SetTable}{z:Int}{tk:Tok}
theorem az6{k:Int}{v:Value}(h:(intKind prog w).is k v=true):∃t,v=.int k t:=Value.isInt_shape h
theorem aAP{e:Int×Value}(h:ElemsOf (intKind prog w) es.toList)(he:e∈es.toList):∃t,e.2=.int (zOf e.2) t:=by
 obtain⟨⟨k,hk,_⟩,_⟩:=h e he
 obtain⟨t,e2⟩:=az6 hk
 exact⟨t,by rw[e2];rfl⟩
theorem av0{es es':Array (Int×Value)}(p:es'.toList.Perm es.toList):(acC es').Perm (acC es):=p.map _
theorem avV(hS:s.heap.get? a=some (aaZ es ep t)){es':Array (Int×Value)}{t':SetTable}:(s.heap.update a (Obj.putSet es' t')).get? a=some (aaZ es' (ep+1) t'):=
 cM (Obj.putSet es' t') hS rfl
theorem aAT{Q:Bool->Shared->Prop}(hS:s.heap.get? a=some (aaZ es ep t))(X:SetE prog w es t)(room:es.size+1<scanBound)
  (k:∀h' es' ep' t' b,Heap.SameBut a s.heap h'->h'.get? a=some (aaZ es' ep' t')->SetE prog w es' t'->(∀x,x∈acC es'↔x∈acC es∨x=z)->es'.size<=es.size+1->Q b {s with heap:=h'}):
  wpAny (model prog w) A (setAddHashed a (.int z tk) ((intKind prog w).hash z)) Q E s:=by
 have key:(intKind prog w).is z (.int z tk)=true:=intKind_is _ _ _ _
 unfold setAddHashed setAddHashedIn
 refine dR (dN (dP hS rfl X.fit ?_))
 dsimp only
 rw[byScan_of (knd:=intKind prog w) (x:=.int z tk) rfl X.sz X.el,if_pos rfl]
 unfold setAddByScan
 refine dN (dN (wpAny_rule (dN (wpAny_setScan_of key hS rfl X.fit X.el ?_))))
 cases hr:List.findIdx? (fun e=>(intKind prog w).is z e.2) es.toList with
 |some j=>
  dsimp only
  obtain⟨hj,pj,_⟩:=List.findIdx?_eq_some_iff_getElem.mp hr
  have hz:z∈acC es:=a9.mpr ⟨es.toList[j],List.getElem_mem hj,by obtain⟨t2,e2⟩:=az6 pj;rw[e2];rfl⟩
  refine eC (eC ?_)
  exact k s.heap es ep t _ (Heap.SameBut.refl a s.heap) hS X (fun x=>⟨.inl,fun h=>h.elim id fun e=>e▸hz⟩) (Nat.le_succ _)
 |none=>
  dsimp only
  have hz:z∉acC es:=fun hm=>by
   obtain⟨e,he,ez⟩:=a9.mp hm
   obtain⟨t2,e2⟩:=aAP X.el he
   have:=List.findIdx?_eq_none_iff.mp hr e he
   rw[e2,ez,intKind_is] at this
   cases this
  have hperm:=layNew_perm t es ((intKind prog w).hash z) (.int z tk)
  have hfits:=layNew_fits t es ((intKind prog w).hash z) (.int z tk)
  have htab:=aBO X.tab es ((intKind prog w).hash z) (.int z tk)
  generalize layNew t es ((intKind prog w).hash z) (.int z tk)=L at hperm hfits htab ⊢
  obtain⟨es1,t1,wd,gave⟩:=L
  dsimp only at hperm hfits htab ⊢
  rw[Array.toList_push] at hperm
  have el1:ElemsOf (intKind prog w) es1.toList:=(X.el.push key rfl).perm hperm
  have zp:(acC es1).Perm (acC es++[z]):=by
   have:=hperm.map fun e:Int×Value=>zOf e.2
   rw[aT] at this
   exact this
  have nd1:(acC es1).Nodup:=zp.nodup_iff.mpr (List.nodup_append.mpr ⟨X.nd,by simp,fun x hx y hy e=>by
   rw[bG] at hy
   exact hz (hy▸e▸hx)⟩)
  have mem1:∀x,x∈acC es1↔x∈acC es∨x=z:=fun x=>by rw[zp.mem_iff,bK,bG]
  have sz1:es1.size=es.size+1:=by rw[←bT,hperm.length_eq,aP,bT];rfl
  have X1:∀pl:Bool,SetE prog w es1 {t1 with plain:=pl}:=fun pl=>⟨el1,nd1,by rw[sz1];exact room,hfits,⟨htab.rise,htab.dum,htab.led⟩⟩
  have tail:∀(t2:SetTable),SetE prog w es1 t2->∀(g:Bool->Sem Unit),(∀(b:Bool) (s₁:Shared) (Q':Unit->Shared->Prop),Q' () s₁->wpAny (model prog w) A (g b) Q' E s₁)->∀R:Option Bool->Shared->Prop,
    (∀h' es' ep' t' ,Heap.SameBut a s.heap h'->h'.get? a=some (aaZ es' ep' t')->SetE prog w es' t'->(∀x,x∈acC es'↔x∈acC es∨x=z)->es'.size<=es.size+1->R (some true) {s with heap:=h'})->
    wpAny (model prog w) A (do
     storeSet a es1 t2
     if (!wd&&t2.tooFull)=true then do
       g (relayAll t2 es1 (SetTable.grown es1.size)).2.2
       storeSet a (relayAll t2 es1 (SetTable.grown es1.size)).1 (relayAll t2 es1 (SetTable.grown es1.size)).2.1
       pure (some true)
      else pure (some true)) R E s:=fun t2 X2 g hg R hR=>by
   refine dN (wpAny_storeSet_of hS rfl ?_ (fits_of_scanBound X2.sz))
   have e1:=avV hS (es':=es1) (t':=t2)
   have b1:=Heap.SameBut.update s.heap a (Obj.putSet es1 t2)
   split
   ·have hp:=relayAll_perm t2 es1 (SetTable.grown es1.size)
    have hf:=relayAll_fits t2 es1 (SetTable.grown es1.size)
    have ht:=ax8 X2.tab es1 (SetTable.grown es1.size)
    generalize relayAll t2 es1 (SetTable.grown es1.size)=R2 at hp hf ht ⊢
    obtain⟨es2,t3,gave2⟩:=R2
    dsimp only at hp hf ht ⊢
    have sz2:es2.size=es1.size:=by rw[←bT,hp.length_eq,bT]
    have X3:SetE prog w es2 t3:=⟨X2.el.perm hp,(av0 hp).nodup_iff.mpr X2.nd,by rw[sz2];exact X2.sz,hf,ht⟩
    refine dN (hg _ _ _ (dN (wpAny_storeSet_of e1 rfl ?_ (fits_of_scanBound X3.sz))))
    exact eC (hR _ es2 _ t3 (b1.trans (Heap.SameBut.update _ a _)) (avV (s:={s with heap:=s.heap.update a (Obj.putSet es1 t2)}) e1) X3 (fun x=>by rw[(av0 hp).mem_iff];exact mem1 x) (by rw[sz2,sz1];exact aO _))
   ·exact eC (hR _ es1 _ t2 b1 e1 X2 mem1 (Nat.le_of_eq sz1))
  have fin:∀h' es' ep' t' ,Heap.SameBut a s.heap h'->h'.get? a=some (aaZ es' ep' t')->SetE prog w es' t'->(∀x,x∈acC es'↔x∈acC es∨x=z)->es'.size<=es.size+1->Q true {s with heap:=h'}:=fun h' es' ep' t'=>k h' es' ep' t' true
  have gw:∀(b:Bool) (s₁:Shared) (Q':Unit->Shared->Prop),Q' () s₁->wpAny (model prog w) A (match b with | true=>rule "set.scan.the-table-gave-way" | false=>pure ()) Q' E s₁:=fun b s₁ Q' hq=>by
   cases b
   ·exact eC hq
   ·exact wpAny_rule hq
  refine dN (gw gave _ _ ?_)
  have X1':SetE prog w es1 t1:=X1 t1.plain
  split
  ·refine dN ?_
   rw[hashByValue_scannable 8 (show (Value.int z tk).scannable=true from rfl)]
   refine eC ?_
   exact tail t1 X1' _ gw _ fun h' es' ep' t' b e x m l=>eC (fin h' es' ep' t' b e x m l)
  ·refine dN (eC ?_)
   exact tail t1 X1' _ gw _ fun h' es' ep' t' b e x m l=>eC (fin h' es' ep' t' b e x m l)
end
section
variable{prog:Program}{w:World}{A:Around}{R:Result->Shared->Prop}{I:Addr}{fp wr:List Addr}{G:Array GenState->Array GenState->Prop}{n:Nat}{P:Nat->Value->Prop}{St:Nat->Shared->Prop}
theorem asY{args:Args}{s:Shared}(h:wpAny (model prog w) A.in1 (Builtin.«set.update.loop» args) (fun x s'=>match x with | .done q=>R (.ok q) s' | .again c=>c.quiet=true/\codeAny (model prog w) A c R s') (fun x s'=>R (.error x) s') s):codeAny (model prog w) A (.builtin "set.update.loop" args) R s:=
 codeAny_builtin F.entry_set_update_loop (by rw[Around.under_plainId F.plain_set_update_loop args];exact h)
theorem axN(W:WalksS prog w A.in1 I fp wr G n P St){S:Addr}(out:S∉fp){val:Nat->Int}(hval:∀i v,P i v->∃t,v=.int (val i) t)(hb:n+1<scanBound):
  ∀(k i:Nat) (s:Shared) (es:Array (Int×Value)) (ep:Nat) (t:SetTable),n-i=k->i<=n->St i s->s.heap.get? S=some (aaZ es ep t)->SetE prog w es t->(∀x,x∈acC es↔∃j,j<i/\val j=x)->es.size<=i->
   (∀s' es' ep' t',Moved (S::wr) G s s'->s'.heap.get? S=some (aaZ es' ep' t')->SetE prog w es' t'->(∀x,x∈acC es'↔∃j,j<n/\val j=x)->R (.ok (.ret .none)) s')->
   codeAny (model prog w) A (.builtin "set.update.loop" {pos:=[.ref S,.ref I]}) R s:=by
 have nw:S∉wr:=fun z=>out (W.sub _ z)
 have sub:∀b∈wr,b∈S::wr:=fun b hb=>bD _ hb
 intro k
 induction k with
 |zero=>
  intro i s es ep t hk hi st hS X hm hz hR
  obtain rfl:i=n:=by omega
  refine asY ?_
  unfold Builtin.«set.update.loop»
  refine dN (W.done s _ _ st fun s' mv=>?_)
  exact eC (hR s' es ep t (mv.mono sub) (mv.heap S _ nw hS) X hm)
 |succ k ih=>
  intro i s es ep t hk hi st hS X hm hz hR
  have lt:i<n:=by omega
  refine asY ?_
  unfold Builtin.«set.update.loop»
  refine dN (W.item i s _ _ lt st fun v s1 hP st1 mv=>?_)
  obtain⟨tk,rfl⟩:=hval i v hP
  have S1:=mv.heap S _ nw hS
  unfold setAdd
  refine dN (dR (dR (dN ((intKind prog w).pyHash (k:=val i) (intKind_is _ _ _ _) (aAT (s:={s1 with toks:=s1.toks+1}) S1 X (by omega) fun h' es' ep' t' b sb S2 X2 m2 z2=>?_)))))
  refine eC ⟨plainId_quiet F.plain_set_update_loop _,ih (i+1) _ es' ep' t' (by omega) lt (W.frame _ s1 _ _ st1 (Nat.le_succ _) fun c hc o e=>?_) S2 X2 (fun x=>?_) (by omega) fun s2 es2 ep2 t2 mv2 S3 X3 m3=>?_⟩
  ·rw[sb.2 c fun z=>out (z▸hc)]
   exact e
  ·rw[m2,hm]
   constructor
   ·rintro (⟨j,hj,e⟩ | rfl)
    ·exact⟨j,by omega,e⟩
    ·exact⟨i,by omega,rfl⟩
   ·rintro⟨j,hj,e⟩
    by_cases c:j=i
    ·subst c;exact .inr e.symm
    ·exact .inl ⟨j,by omega,e⟩
  ·refine hR s2 es2 ep2 t2 (Moved.trans W.gtrans ((mv.mono sub).then_heap (Nat.le_succ _) fun c o hc e=>?_) mv2) S3 X3 m3
   rw[sb.2 c fun z=>hc (z▸bB)]
   exact e
end
section
variable{prog:Program}{w:World}{A:Around}{E:Value->Shared->Prop}{s:Shared}
noncomputable abbrev ap9(w:World):Obj:=aaZ #[] 0 (.fresh 0 0 (as5 w))
theorem aJE:SetE prog w #[] (.fresh 0 0 (as5 w)):=⟨fun _ h=>by simp at h,by simp[acC],by decide,rfl,⟨by unfold Rise;simp[SetTable.fresh],rfl,rfl⟩⟩
theorem ayN(a:Value){Q₁:Value->Shared->Prop}(h:Q₁ (.ref s.heap.objs.size) {s with heap:=s.heap.push (ap9 w)}):codeAny (model prog w) A (.call (.builtin "set.__new__") ⟨[.type "set",a],[]⟩) (wants Q₁ E) s:=by
 have own:=sub_set_self
 refine codeAny_of_tree (dN (m:=checkBuiltinCall "set.__new__" {pos:=[.type "set",a]}) (wpAny_of_eq (F.newCall_set_1 a) (eC ⟨plainId_quiet F.plain_set_new _,codeAny_builtin F.entry_set_new ?_⟩)))
 rw[Around.under_plainId F.plain_set_new {pos:=[.type "set",a]}]
 simp only[Builtin.«set.__new__»,Builtin.Frozenset.newClass]
 obtain⟨h0,g0,d0,t0,o0⟩:=s
 wp_walk
 refine wpAny_askSetting (eC ?_)
 dsimp only
 simp only[newObj]
 exact dN (wpAny_alloc (eC (eC h)))
set_option maxHeartbeats 3200000 in
theorem ax1{l:Addr}{items:Array Value}{ns:List Int}{Q:Value->Shared->Prop}(hh:A.handled=none)(hl:s.heap.IsList l items)(hi:IntsAre items.toList ns)(hb:items.size+1<scanBound)
  (k:∀(h':Heap) (tk:Nat) (es:Array (Int×Value)) (ep:Nat) (t:SetTable),h'.get? s.heap.objs.size=some (aaZ es ep t)->SetE prog w es t->(∀x,x∈acC es↔x∈ns)->(∀b o,s.heap.get? b=some o->h'.get? b=some o)->Q (.ref s.heap.objs.size) {s with heap:=h',toks:=tk}):
  wpAny (model prog w) A (call (.type "set") [.ref l]) Q E s:=by
 obtain⟨⟨c0,tl0,m0⟩,m1,m2,m3,m4,m5⟩:=And.intro F.called_set.mro (And.intro F.called_set.made (And.intro F.called_set.sub (And.intro F.called_set.notType (And.intro F.called_set.canCreate (F.typeCall_set_1 (.ref l))))))
 refine wpAny_call (codeAny_of_tree (show wpAny _ _ (callAny (.type "set") _) _ _ _ from eC ⟨Code.quiet_builtin _ (by decide +kernel),codeAny_builtin F.entry_type_call ?_⟩))
 rw[Around.under_plain (weight_type_call_type "set" [.ref l] []) (by rfl)]
 repeat any_goals (first | assumption | wp_step)
 refine codeAny_mono (ayN (.ref l) (E:=E) (Q₁:=fun obj s₁=>obj=.ref s.heap.objs.size/\s₁={s with heap:=s.heap.push (ap9 w)}) ⟨rfl,rfl⟩) fun r s₁ hr=>?_
 cases r with
 |error e=>exact hr
 |ok fl=>
  cases fl with
  |ret obj=>
   obtain⟨rfl,rfl⟩:=hr
   have hS:(s.heap.push (ap9 w)).get? s.heap.objs.size=some (ap9 w):=bC _ rfl
   have hT:Shared.TypeIs {s with heap:=s.heap.push (ap9 w)} (.ref s.heap.objs.size) "set":=⟨_,hS,rfl⟩
   obtain⟨i1,i2⟩:=And.intro F.called_set.init.lookup (F.called_set.init.bind (.ref s.heap.objs.size))
   repeat any_goals (first | assumption | wp_step)
   refine codeAny_mono (codeAny_call_builtin (R:=wants (fun r s₂=>r=.none/\∃h' tk es ep t,s₂={s with heap:=h',toks:=tk}/\h'.get? s.heap.objs.size=some (aaZ es ep t)/\SetE prog w es t/\(∀x,x∈acC es↔x∈ns)/\(∀b o,s.heap.get? b=some o->h'.get? b=some o)) E) F.called_set.init.plain F.entry_set_init (check_set_init_1 hT ?_)) fun r₂ s₂ hr₂=>?_
   ·obtain⟨⟨oc,od,odt,osl⟩,hol,hcl,nl,hdl⟩:=hl
    cases hcl
    cases hdl
    have hol':=aS (ap9 w) hol
    have s1:=F.sub_list_set
    have s2:=F.sub_list_frozenset
    have ne:(Value.type "list"==Value.type "dict")=false:=by decide
    have hl1:(s.heap.push (ap9 w)).IsList l items:=⟨_,hol',rfl,nl,rfl⟩
    simp only[Builtin.«set.__init__»,noKeywords,Builtin.Frozenset.updateFrom]
    generalize hPI:pyIter=PI
    wp_walk
    subst hPI
    refine wpAny_pyIter_list hl1 (dN (wpAny_runValue ?_))
    have ll:l<s.heap.objs.size:=aQ hol
    have h3:A.in1.in1.in1.handled=none:=by simp[hh]
    have nI:l≠(s.heap.push (ap9 w)).objs.size:=by rw[cG];exact aV (cH ll)
    have out:s.heap.objs.size∉[(s.heap.push (ap9 w)).objs.size,l]:=by
     rw[cG]
     simp only[aR,cB,or_false,not_or]
     exact⟨aV (cR _),Nat.ne_of_gt ll⟩
    have val:∀(i:Nat) (v:Value),items[i]? =some v->∃t,v=.int ((fun i=>ns.getD i 0) i) t:=fun i v hv=>IntsAre.int_at hi i v (by rw[cE];exact hv)
    have ln:items.size=ns.length:=by rw[←bT];exact IntsAre.length hi
    refine axN ((Walks.list h3 _ l nI items).toS) out val hb (items.size-0) 0 _ #[] 0 (.fresh 0 0 (as5 w)) (by omega) (aZ _) ⟨⟨_,bC _ rfl,rfl,rfl⟩,hl1.push _⟩ (aS _ hS) aJE (fun x=>⟨fun z=>by simp[acC] at z,fun ⟨j,hj,_⟩=>absurd hj (Nat.not_lt_zero _)⟩) (aO _) fun s' es ep t mv S' X' m'=>?_
    obtain⟨h',g',d',tk',os'⟩:=s'
    have eg:g'=s.gens:=mv.gens
    have ed:d'=s.drawn:=mv.drawn
    have eo:os'=s.os:=mv.os
    subst eg;subst ed;subst eo
    refine eC (eC ⟨rfl,h',tk',es,ep,t,rfl,S',X',fun x=>?_,fun b o e=>?_⟩)
    ·rw[m' x,ln]
     constructor
     ·rintro⟨j,hj,rfl⟩
      have:ns.getD j 0=ns[j]:=by rw[List.getD_eq_getElem?_getD,bU hj];rfl
      rw[this]
      exact List.getElem_mem hj
     ·intro hx
      obtain⟨j,hj,e⟩:=List.mem_iff_getElem.mp hx
      exact⟨j,hj,by rw[List.getD_eq_getElem?_getD,bU hj];exact e⟩
    ·have lb:=aQ e
     refine mv.heap b o ?_ (aS _ (aS _ e))
     rw[cG]
     simp only[aR,cB,or_false,not_or]
     exact⟨aV lb,aV (cH lb)⟩
   ·cases r₂ with
    |error e=>exact hr₂
    |ok fl₂=>
     cases fl₂ with
     |ret r=>
      obtain⟨rfl,h',tk,es,ep,t,rfl,S',X',m',k'⟩:=hr₂
      repeat any_goals (first | assumption | wp_step)
      exact k h' tk es ep t S' X' m' k'
     |_=>exact hr₂.elim
  |_=>exact hr.elim
end
theorem agZ{α:Type}:∀(l:List α) (i:Nat) (h:i<l.length),(l[i]::l.eraseIdx i).Perm l
 |[],i,h=>by cases h
 |x::r,0,h=>List.Perm.refl _
 |x::r,i+1,h=>(List.Perm.swap x (r[i]'(by simpa using h)) _).trans (List.Perm.cons x (agZ r i (by simpa using h)))
theorem av3{α:Type}(next:Nat->Nat):∀(f k:Nat) (left:List α) (out:Array α),left.length=f->(pickOrder.go next f k left out).toList.Perm (out.toList++left)
 |0,k,left,out,h=>by
  rw[List.length_eq_zero_iff.mp h,bS]
  exact List.Perm.refl _
 |f+1,k,left,out,h=>by
  have hl:next k%left.length<left.length:=Nat.mod_lt _ (by omega)
  unfold pickOrder.go
  rw[bU hl]
  dsimp only
  refine (av3 next f (k+1) (left.eraseIdx (next k%left.length)) (out.push left[next k%left.length]) (by rw[List.length_eraseIdx_of_lt hl,h];rfl)).trans ?_
  rw[Array.toList_push,c8]
  exact List.Perm.append_left _ (agZ _ _ hl)
theorem axF{α:Type}(next:Nat->Nat)(xs:Array α):(pickOrder next xs).toList.Perm xs.toList:=by
 have:=av3 next xs.size 0 xs.toList #[] (bT)
 rw[show (#[]:Array α).toList=[] from rfl,List.nil_append] at this
 exact this
section
variable{M:Model}{A:Around}{E:Value->Shared->Prop}{s:Shared}
theorem apG{src:Source}{n:Nat}{Q:Nat->Shared->Prop}(hn:n≠0)(h:∀i d,i<n->Q i {s with drawn:=d}):wpAny M A (choose src n) Q E s:=fun Γ p hΓ=>⟨hn,h _ _ (Nat.mod_lt _ (Nat.pos_of_ne_zero hn))⟩
theorem an4{α:Type}:∀(n:Nat) (xs:List α) (s:Shared) (Q:List α->Shared->Prop),xs.length=n->(∀ys d,ys.Perm xs->Q ys {s with drawn:=d})->wpAny M A (drawOrder n xs) Q E s
 |0,xs,s,Q,hn,h=>by
  rw[List.length_eq_zero_iff.mp hn] at h ⊢
  exact eC (h [] s.drawn (List.Perm.refl _))
 |n+1,[],s,Q,hn,h=>by cases hn
 |n+1,x::r,s,Q,hn,h=>by
  unfold drawOrder
  refine dN (apG (by simp) fun i d hi=>?_)
  rw[bU hi]
  refine dN (an4 n _ _ _ (by rw[List.length_eraseIdx_of_lt hi,hn];rfl) fun ys d2 hp=>eC (h _ d2 ?_))
  exact (List.Perm.cons _ hp).trans (agZ _ _ hi)
end
theorem amU:entryFor table "set.__iter__"=some Builtin.«frozenset.__iter__»:=entryFor_alias (id':="frozenset.__iter__") (by decide +kernel) (by decide +kernel) (by decide +kernel) (by kernel_rfl)
theorem slot_set_itn:Slot "set_iterator" "__next__" "set_iterator.__next__":=
 .of (owner:="set_iterator") (n:="__next__") (by rw[typeLookup_type,builtinLookup_eq_fast];kernel_rfl) (by decide +kernel) (by decide +kernel) (by decide +kernel)
  (by first | exact .inl (by decide +kernel) | exact .inr (by decide +kernel)) (by rw[isSubtype_type];kernel_rfl)
theorem agN:entryFor table "set_iterator.__next__"=some Builtin.«set_iterator.__next__»:=entryFor_of_tree (by kernel_rfl)
theorem ag2(a:Value):argsOk "set_iterator.__next__" ⟨[a],[]⟩:=by unfold argsOk;kernel_rfl
noncomputable abbrev sit(first:Value)(i:Nat)(a:Addr)(n ep:Nat):Obj:={cls:=.type "set_iterator",dict:=none,data:=.fields #[first,rawInt i,.ref a,rawInt n,rawInt ep],slots:= #[]}
section
variable{prog:Program}{w:World}{A:Around}{E:Value->Shared->Prop}{s:Shared}{a I:Addr}{es:Array (Int×Value)}{ep:Nat}{t:SetTable}
noncomputable def ad7(w:World)(a:Addr)(es:Array (Int×Value))(ep:Nat):List Value:=if w.params.followText "set-order" then (pickOrder (w.params.setOrder a ep) es).toList.map (·.2) else es.toList.map (·.2)
noncomputable def abB(w:World)(t:SetTable)(i:Nat):Nat:=if w.params.followText "set-order" then 0 else match i with
 |0=>0
 |i+1=>t.place.getD i 0+1
theorem aA6:abB w t 0=0:=by unfold abB;split<;>rfl
theorem aA4{i:Nat}(bt:w.params.followText "set-order"=false):abB w t (i+1)=t.place.getD i 0+1:=by unfold abB;rw[bt,if_neg (by simp)]
theorem ord_perm:(ad7 w a es ep).Perm (es.toList.map (·.2)):=by
 unfold ad7
 split
 ·exact (axF _ _).map _
 ·exact List.Perm.refl _
theorem ao4:(ad7 w a es ep).length=es.size:=by rw[ord_perm.length_eq,aM,bT]
theorem agS{Q:Bool->Shared->Prop}(h:Q (w.params.followText "set-order") s):wpAny (model prog w) A setsByText Q E s:=by
 unfold setsByText
 exact dN (wpAny_askSetting (eC h))
theorem ayM{Q:Option (Value×Nat)->Shared->Prop}{i:Nat}(hS:s.heap.get? a=some (aaZ es ep t))(X:SetE prog w es t)(nd:w.params.followText "set-order"=true∨(!t.plain&&decide (es.size>1))=false)(hi:i<=es.size)
  (h:Q ((ad7 w a es ep)[i]?.map fun v=>(v,abB w t (i+1))) s):wpAny (model prog w) A (setNext a (abB w t i) i ep) Q E s:=by
 unfold setNext
 refine dN (dP hS rfl X.fit ?_)
 dsimp only
 refine dN (agS ?_)
 cases bt:w.params.followText "set-order" with
 |true=>
  rw[if_pos rfl,if_neg (by simp)]
  refine dN ?_
  unfold setWalk
  refine dN (dP hS rfl X.fit ?_)
  dsimp only
  refine dN (agS ?_)
  rw[bt,if_pos rfl]
  refine dN (wpAny_askSetting (eC (eC ?_)))
  have e:ad7 w a es ep=(pickOrder (w.params.setOrder a ep) es).toList.map (·.2):=by unfold ad7;rw[bt,if_pos rfl]
  rw[e,aY,cE,Option.map_map] at h
  have e2:abB w t (i+1)=abB w t i:=by unfold abB;rw[bt,if_pos rfl,if_pos rfl]
  rw[e2] at h
  exact h
 |false=>
  have nd':(!t.plain&&decide (es.size>1))=false:=nd.resolve_left (by rw[bt];simp)
  have led:t.led=true:=by rw[X.tab.led];unfold as5;rw[bt];rfl
  have fit:t.place.size=es.size:=by
   have:=X.fit
   simp only[SetTable.fits,bE,beq_iff_eq] at this
   exact this.1
  rw[if_neg (by simp)]
  change wpAny _ _ (if (!t.plain&&decide (es.size>1))=true then _ else _) _ _ _
  rw[if_neg (by rw[nd'];simp)]
  refine dN ?_
  change wpAny _ _ (if (!t.led&& !es.isEmpty)=true then _ else _) _ _ _
  rw[if_neg (by rw[led];simp)]
  refine eC (eC ?_)
  have e:ad7 w a es ep=es.toList.map (·.2):=by unfold ad7;rw[bt,if_neg (by simp)]
  have cut:SetTable.below t.place (abB w t i)=i:=by
   obtain⟨c1,c2,c3⟩:=aiV X.tab.rise (abB w t i)
   have at':∀k,k<t.place.size->t.place[k]? =some (t.place.getD k 0):=fun k hk=>by rw[Array.getD_eq_getD_getElem?,cI hk];rfl
   cases i with
   |zero=>
    rcases Nat.eq_zero_or_pos (SetTable.below t.place (abB w t 0)) with z | z
    ·exact z
    ·have:=c2 0 _ z (at' 0 (by omega))
     rw[aA6] at this
     exact absurd this (Nat.not_lt_zero _)
   |succ i=>
    have e0:abB w t (i+1)=t.place.getD i 0+1:=aA4 bt
    have hi':i<t.place.size:=by omega
    have l1:¬SetTable.below t.place (abB w t (i+1))<=i:=fun z=>by
     have:=c3 i _ z (at' i hi')
     omega
    have l2:¬i+1<SetTable.below t.place (abB w t (i+1)):=fun z=>by
     have h1:i+1<t.place.size:=by omega
     have:=c2 (i+1) _ z (at' (i+1) h1)
     have:=X.tab.rise.lt (at' i hi') (at' (i+1) h1) (cR i)
     omega
    omega
  rw[cut]
  rw[e,aY,cE,Option.map_map] at h
  by_cases c:i<es.size
  ·rw[cI c,cI (show i<t.place.size by omega)]
   rw[cI c] at h
   have e2:abB w t (i+1)=t.place[i]'(by omega)+1:=by
    rw[aA4 bt,Array.getD_eq_getD_getElem?,cI (show i<t.place.size by omega)]
    rfl
   rw[e2] at h
   exact h
  ·rw[dJ (by omega),dJ (by omega)]
   rw[dJ (by omega)] at h
   exact h
noncomputable abbrev aG2:Obj:={cls:=.type "tuple",data:=.seq #[]}
noncomputable abbrev aMI(a:Addr):Obj:={cls:=.type "StopIteration",data:=.fields (#[Value.ref a,.none,.none,.none,.bool false,.none]++ownMembersOf (.type "StopIteration") [])}
theorem aoO{β:Type}{Q:β->Shared->Prop}(hh:A.handled=none)(h:E (.ref (s.heap.push aG2).objs.size) {s with heap:=(s.heap.push aG2).push (aMI s.heap.objs.size)}):
  wpAny (model prog w) A (do raiseNew (←newExc (.type "StopIteration") []):Sem β) Q E s:=by
 refine dN ?_
 simp only[newExc,newTuple]
 refine dN (dM (dN (m:=firstArgMember _ _) (wpAny_of_eq (a:=Value.none) (by simp only[firstArgMember];rfl) (dM ?_ (by size_fits)))) (by size_fits))
 unfold raiseNew
 refine dN (wpAny_handled ?_)
 rw[hh]
 exact dN (eC (wpAny_throw h))
theorem ac7{f:Value}{i n ep:Nat}(h:s.heap.get? I=some (sit f i a n ep)):s.TypeIs (.ref I) "set_iterator":=⟨_,h,rfl⟩
theorem atS{i:Nat}{Q:Option Value->Shared->Prop}(hh:A.handled=none)(ne:a≠I)(hI:s.heap.get? I=some (sit (rawInt (abB w t i)) i a es.size ep))(hS:s.heap.get? a=some (aaZ es ep t))(X:SetE prog w es t)
  (nd:w.params.followText "set-order"=true∨(!t.plain&&decide (es.size>1))=false) (hi:i<=es.size)
  (k:∀v h',(ad7 w a es ep)[i]? =some v->h'.get? I=some (sit (rawInt (abB w t (i+1))) (i+1) a es.size ep)->(∀b o,b≠I->s.heap.get? b=some o->h'.get? b=some o)->Q (some v) {s with heap:=h'})
  (k0:(ad7 w a es ep)[i]? =none->∀h',(∀b o,b≠I->s.heap.get? b=some o->h'.get? b=some o)->Q none {s with heap:=h'}):wpAny (model prog w) A (pyNext (.ref I)) Q E s:=by
 unfold pyNext
 refine dN (wpAny_attempt (wpAny_callSpecial?_slot (name:=Str.ofString "__next__") (ac7 hI) slot_set_itn (wpAny_call_entry slot_set_itn (ac7 hI) agN ?_ (ag2 _))))
 unfold Builtin.«set_iterator.__next__»
 refine dN (m:=slotArgs _ _ _) (eC ?_)
 refine dN (wpAny_fieldsOf hI rfl ?_)
 simp only[rawInt]
 unfold setEntries
 refine dN (dN (dP hS rfl X.fit (eC ?_)))
 rw[if_neg (by simp)]
 simp only[bP]
 refine dN (ayM hS X nd hi ?_)
 cases ho:(ad7 w a es ep)[i]? with
 |some v=>
  dsimp only[Option.map]
  refine dN (wpAny_setField hI rfl (show 0<5 by decide) ?_)
  have h1:=cM (Obj.mapFields (·.setIfInBounds 0 (Value.int (abB w t (i+1)) 0))) hI rfl
  refine dN (wpAny_setField h1 rfl (show 1<5 by decide) ?_)
  have h2:=cM (Obj.mapFields (·.setIfInBounds 1 (Value.int ((i:Int)+1) 0))) h1 rfl
  refine eC ⟨v,rfl,eC (k v _ ho ?_ fun b o nb e=>?_)⟩
  ·rw[h2]
   show some _=some _
   congr 1
  ·rw[cD _ _ (Ne.symm nb),cD _ _ (Ne.symm nb)]
   exact e
 |none=>
  dsimp only[Option.map]
  refine dN (wpAny_setField hI rfl (show 2<5 by decide) (aoO hh ?_))
  refine dN (wpAny_isInstance (T:="StopIteration") (b:=true) ⟨_,bC _ rfl,rfl⟩ isSubtype_stop (eC (k0 ho _ fun b o nb e=>?_)))
  refine aS _ (aS _ ?_)
  rw[cD _ _ (Ne.symm nb)]
  exact e
theorem an6{i:Nat}{T:Addr}{ys:List Nat}{Q:Option Value->Shared->Prop}(hh:A.handled=none)(hI:s.heap.get? I=some (sit (.ref T) i a es.size ep))(hT:s.heap.get? T=some {cls:=.type "tuple",data:=.seq (ys.map fun (y:Nat)=>rawInt y).toArray})(hS:s.heap.get? a=some (aaZ es ep t))(X:SetE prog w es t)
  (hy:∀y∈ys,y<es.size)
  (k:∀y v h',ys[i]? =some y->(es.toList.map (·.2))[y]? =some v->h'.get? I=some (sit (.ref T) (i+1) a es.size ep)->(∀b o,b≠I->s.heap.get? b=some o->h'.get? b=some o)->Q (some v) {s with heap:=h'})
  (k0:ys[i]? =none->∀h',(∀b o,b≠I->s.heap.get? b=some o->h'.get? b=some o)->Q none {s with heap:=h'}):wpAny (model prog w) A (pyNext (.ref I)) Q E s:=by
 unfold pyNext
 refine dN (wpAny_attempt (wpAny_callSpecial?_slot (name:=Str.ofString "__next__") (ac7 hI) slot_set_itn (wpAny_call_entry slot_set_itn (ac7 hI) agN ?_ (ag2 _))))
 unfold Builtin.«set_iterator.__next__»
 refine dN (m:=slotArgs _ _ _) (eC (dN (wpAny_fieldsOf hI rfl ?_)))
 simp only[rawInt]
 unfold setEntries
 refine dN (dN (dP hS rfl X.fit (eC ?_)))
 rw[if_neg (by simp)]
 refine dN (wpAny_seqItems hT rfl ?_)
 have eg:((ys.map fun (y:Nat)=>rawInt y).toArray)[(i:Int).toNat]? =(ys[i]?).map fun (y:Nat)=>rawInt y:=by
  rw[bP,List.getElem?_toArray,aY]
 dsimp only
 rw[eg]
 cases ho:ys[i]? with
 |some y=>
  have hlt:=hy y (bH ho)
  have ev:(es.toList.map (·.2))[y]? =some es[y].2:=by rw[aY,cE,cI hlt];rfl
  dsimp only[Option.map,rawInt]
  unfold setNextDrawn
  refine dN (dN (dP hS rfl X.fit ?_))
  dsimp only
  rw[if_neg (by simp)]
  simp only[bP]
  rw[cI hlt]
  refine eC (dN (wpAny_setField hI rfl (show 1<5 by decide) ?_))
  have h2:=cM (Obj.mapFields (·.setIfInBounds 1 (Value.int ((i:Int)+1) 0))) hI rfl
  refine eC ⟨es[y].2,rfl,eC (k y _ _ ho ev ?_ fun b o nb e=>?_)⟩
  ·rw[h2]
   show some _=some _
   congr 1
  ·rw[cD _ _ (Ne.symm nb)]
   exact e
 |none=>
  dsimp only[Option.map]
  refine dN (wpAny_setField hI rfl (show 0<5 by decide) ?_)
  have h1:=cM (Obj.mapFields (·.setIfInBounds 0 (Value.int 0 0))) hI rfl
  refine dN (wpAny_setField h1 rfl (show 2<5 by decide) (aoO hh ?_))
  refine dN (wpAny_isInstance (T:="StopIteration") (b:=true) ⟨_,bC _ rfl,rfl⟩ isSubtype_stop (eC (k0 ho _ fun b o nb e=>?_)))
  refine aS _ (aS _ ?_)
  rw[cD _ _ (Ne.symm nb),cD _ _ (Ne.symm nb)]
  exact e
theorem ahT:Slot "set_iterator" "__iter__" "set_iterator.__iter__":=
 .of (owner:="set_iterator") (n:="__iter__") (by rw[typeLookup_type,builtinLookup_eq_fast];kernel_rfl) (by decide +kernel) (by decide +kernel) (by decide +kernel)
  (by first | exact .inl (by decide +kernel) | exact .inr (by decide +kernel)) (by rw[isSubtype_type];kernel_rfl)
theorem am8:entryFor table "set_iterator.__iter__"=some Builtin.«dict_keyiterator.__iter__»:=entryFor_alias (id':="dict_keyiterator.__iter__") (by decide +kernel) (by decide +kernel) (by decide +kernel) (by kernel_rfl)
theorem aq1(a:Value):argsOk "set_iterator.__iter__" ⟨[a],[]⟩:=by unfold argsOk;kernel_rfl
theorem atL{f:Value}{i n:Nat}{Q:Value->Shared->Prop}(hI:s.heap.get? I=some (sit f i a n ep))(h:Q (.ref I) s):wpAny (model prog w) A (pyIter (.ref I)) Q E s:=by
 refine wpAny_pyIter_slot (ac7 hI) ahT (wpAny_call_entry ahT (ac7 hI) am8 ?_ (aq1 _))
 unfold Builtin.«dict_keyiterator.__iter__»
 exact dN (m:=slotArgs _ _ _) (eC (eC ⟨_,rfl,"set_iterator",_,ac7 hI,slot_set_itn.lookup,h⟩))
theorem ax0(hh:A.handled=none)(ne:a≠I)(X:SetE prog w es t)(nd:w.params.followText "set-order"=true∨(!t.plain&&decide (es.size>1))=false):
  Walks prog w A I [I,a] [I] es.size (fun i v=>(ad7 w a es ep)[i]? =some v) (fun i h=>i<=es.size/\h.get? I=some (sit (rawInt (abB w t i)) i a es.size ep)/\h.get? a=some (aaZ es ep t)) where
 sub:=fun b hb=>by simp at hb;simp[hb]
 frame:=fun i h h' st k=>⟨st.1,k I (by simp) _ st.2.1,k a (by simp) _ st.2.2⟩
 item:=fun i s Q E hi st k=>atS hh ne st.2.1 st.2.2 X nd st.1 (fun v h' ho hI' kp=>k v h' s.toks ho ⟨hi,hI',kp a _ ne st.2.2⟩ fun b o nb e=>kp b o (fun z=>nb (by simp[z])) e) fun ho=>by
  have:=List.getElem?_eq_none_iff.mp ho
  have hl:=ao4 (w:=w) (a:=a) (es:=es) (ep:=ep)
  omega
 done:=fun s Q E st k=>atS hh ne st.2.1 st.2.2 X nd st.1 (fun v h' ho=>by
  obtain⟨z,_⟩:=cF.mp ho
  have hl:=ao4 (w:=w) (a:=a) (es:=es) (ep:=ep)
  omega) fun _ h' kp=>k h' s.toks fun b o nb e=>kp b o (fun z=>nb (by simp[z])) e
 self:=fun i s Q E st k=>atL st.2.1 k
theorem at3{T:Addr}{ys:List Nat}(hh:A.handled=none)(ne:a≠I)(nT:T≠I)(X:SetE prog w es t)(hp:ys.Perm (List.range es.size)):
  Walks prog w A I [I,a,T] [I] es.size (fun i v=>∃y,ys[i]? =some y/\(es.toList.map (·.2))[y]? =some v) (fun i h=>h.get? I=some (sit (.ref T) i a es.size ep)/\h.get? a=some (aaZ es ep t)/\h.get? T=some {cls:=.type "tuple",data:=.seq (ys.map fun (y:Nat)=>rawInt y).toArray}) where
 sub:=fun b hb=>by simp at hb;simp[hb]
 frame:=fun i h h' st k=>⟨k I (by simp) _ st.1,k a (by simp) _ st.2.1,k T (by simp) _ st.2.2⟩
 item:=fun i s Q E hi st k=>an6 hh st.1 st.2.2 st.2.1 X (fun y hy=>by simpa using hp.mem_iff.mp hy) (fun y v h' h1 h2 hI' kp=>k v h' s.toks ⟨y,h1,h2⟩ ⟨hI',kp a _ ne st.2.1,kp T _ nT st.2.2⟩ fun b o nb e=>kp b o (fun z=>nb (by simp[z])) e) fun ho=>by
  have:=List.getElem?_eq_none_iff.mp ho
  have hl:=hp.length_eq
  rw[cL] at hl
  omega
 done:=fun s Q E st k=>an6 hh st.1 st.2.2 st.2.1 X (fun y hy=>by simpa using hp.mem_iff.mp hy) (fun y v h' ho=>by
  obtain⟨z,_⟩:=cF.mp ho
  have hl:=hp.length_eq
  rw[cL] at hl
  omega) fun _ h' kp=>k h' s.toks fun b o nb e=>kp b o (fun z=>nb (by simp[z])) e
 self:=fun i s Q E st k=>atL st.1 k
theorem az8{Q:Value->Shared->Prop}(hS:s.heap.get? a=some (aaZ es ep t))(X:SetE prog w es t)
  (k:(w.params.followText "set-order"=true∨(!t.plain&&decide (es.size>1))=false)->Q (.ref s.heap.objs.size) {s with heap:=s.heap.push (sit (rawInt 0) 0 a es.size ep)})
  (kD:∀(ys:List Nat) (d:Drawn),ys.Perm (List.range es.size)->Q (.ref (s.heap.objs.size+1)) {s with heap:=(s.heap.push {cls:=.type "tuple",data:=.seq (ys.map fun (y:Nat)=>rawInt y).toArray}).push (sit (.ref s.heap.objs.size) 0 a es.size ep),drawn:=d}):
  wpAny (model prog w) A (pyIter (.ref a)) Q E s:=by
 have hT:s.TypeIs (.ref a) "set":=⟨_,hS,rfl⟩
 refine wpAny_pyIter_slot hT F.slot_set_iter (wpAny_call_entry F.slot_set_iter hT amU ?_ (F.args_set_iter_1 _))
 unfold Builtin.«frozenset.__iter__» Builtin.Frozenset.slot0
 refine dN (dN (m:=slotArgs _ _ _) (eC (eC ?_)))
 unfold Builtin.Frozenset.sizeOf setEntries
 refine dN (dN (dN (dP hS rfl X.fit (eC (eC ?_)))))
 unfold setDrawn
 refine dN (dN (dP hS rfl X.fit ?_))
 refine dN (agS (eC ?_))
 have sl:=fits_of_scanBound X.sz
 dsimp only
 change wpAny _ _ (if (!w.params.followText "set-order"&&(!t.plain&&decide (es.size>1)))=true then _ else _) _ _ _
 by_cases c:(!w.params.followText "set-order"&&(!t.plain&&decide (es.size>1)))=true
 ·rw[if_pos c]
  refine dN (an4 es.size (List.range es.size) s _ cL fun ys d hp=>?_)
  unfold newTuple
  refine dN (dM ?_ (by show (ys.map fun (y:Nat)=>rawInt y).toArray.size<=_;rw[bN,aM,hp.length_eq,cL];omega))
  refine dN (wpAny_setEpoch_of (aS _ hS) rfl X.fit ?_)
  unfold newFields
  refine dN (dM (eC ⟨_,rfl,"set_iterator",_,⟨_,bC _ rfl,rfl⟩,slot_set_itn.lookup,?_⟩))
  have:=kD ys d hp
  rw[cG]
  exact this
 ·rw[if_neg c]
  refine dN (eC (dN (wpAny_setEpoch_of hS rfl X.fit ?_)))
  unfold newFields
  refine dN (dM (eC ⟨_,rfl,"set_iterator",_,⟨_,bC _ rfl,rfl⟩,slot_set_itn.lookup,k ?_⟩))
  cases q:w.params.followText "set-order" with
  |true=>exact .inl rfl
  |false=>
   refine .inr ?_
   rw[q] at c
   simpa using c
theorem atH{Q:Bool->Shared->Prop}(hT:s.TypeIs (.ref a) "set")(h:Q false s):wpAny (model prog w) A (Builtin.List.listLengthHint (.ref a)) Q E s:=by
 unfold Builtin.List.listLengthHint
 refine dN (wpAny_specialOf hT F.slot_set_len.lookup ?_)
 generalize hid:("set.__len__":String)=id0
 wp_delta
 have parts:splitId id0=some ("set","__len__"):=by subst hid;decide +kernel
 rw[parts]
 subst hid
 refine dN (wpAny_isInstance (T:="set") (b:=true) hT (by rw[isSubtype_type];kernel_rfl) ?_)
 refine wpAny_ite_split (fun z=>absurd z (by decide)) (fun _=>wpAny_ite_split (fun _=>dN (wpAny_typeOf hT (eC h))) fun z=>absurd (by decide +kernel) z)
end
section
variable{prog:Program}{w:World}{A:Around}{E:Value->Shared->Prop}{s:Shared}{a I:Addr}{es:Array (Int×Value)}{ep:Nat}{t:SetTable}
theorem ar0{xs:List Value}{acc:Array Value}{n:Nat}(hn:xs.length=n)(its:ItemsOf (fun i v=>xs[i]? =some v) acc n):acc.toList=xs:=by
 refine List.ext_getElem? fun i=>?_
 rw[cE]
 by_cases c:i<acc.size
 ·have e:=cI c
  rw[e,its.2 i _ e]
 ·rw[dJ (by omega),List.getElem?_eq_none (by have:=its.1;omega)]
theorem auH{R:Result->Shared->Prop}{S:Addr}(hh:A.handled=none)(hS:s.heap.get? a=some (aaZ es ep t))(X:SetE prog w es t)(ne:S≠a)(hL:s.heap.get? S=some {cls:=.type "list",data:=.seq #[]})
  (k:∀(s':Shared) (acc:Array Value) (c:Nat),acc.toList.Perm (es.toList.map (·.2))->(∀b o,b≠S->s.heap.get? b=some o->s'.heap.get? b=some o)->s'.gens=s.gens->s'.os=s.os->s'.heap.get? S=some {cls:=.type "list",data:=.seq acc c}->R (.ok (.ret (.ref S))) s'):
  wpAny (model prog w) A.in1 (Builtin.List.listExtendWith (.ref S) (.ref a) (.ref S)) (fun fin s'=>match fin with | .done f=>R (.ok f) s' | .again c'=>c'.quiet=true/\codeAny (model prog w) A c' R s') (fun e s'=>R (.error e) s') s:=by
 have sl:=fits_of_scanBound X.sz
 have la:a<s.heap.objs.size:=aQ hS
 have lS:S<s.heap.objs.size:=aQ hL
 have apart:Builtin.List.listSameRef (.ref S) (.ref a)=false:=by simp[Builtin.List.listSameRef,ne]
 unfold Builtin.List.listExtendWith
 refine dN (wpAny_typeOf (T:="set") ⟨_,hS,rfl⟩ ?_)
 rw[if_neg (by rw[apart];decide)]
 refine dN (az8 hS X (fun nd=>?_) fun ys d hp=>?_)
 ·have HS:(s.heap.push (sit (rawInt 0) 0 a es.size ep)).get? a=some (aaZ es ep t):=aS _ hS
  have LS:(s.heap.push (sit (rawInt 0) 0 a es.size ep)).get? S=some {cls:=.type "list",data:=.seq #[]}:=aS _ hL
  have W:=ax0 (A:=A.in1) (ep:=ep) (I:=s.heap.objs.size) hh (aV la) X nd
  have ST:0<=es.size/\(s.heap.push (sit (rawInt 0) 0 a es.size ep)).get? s.heap.objs.size=some (sit (rawInt (abB w t 0)) 0 a es.size ep)/\(s.heap.push (sit (rawInt 0) 0 a es.size ep)).get? a=some (aaZ es ep t):=⟨aZ _,by rw[aA6];exact bC s.heap (o:=sit (rawInt 0) 0 a es.size ep) rfl,HS⟩
  refine dN (dR (atH ⟨_,HS,rfl⟩ ?_))
  rw[if_pos (by decide)]
  refine dN (wpAny_rule (dN (show wpAny _ _ (updateSeq S (fun l=>l.push Value.none) >>=fun _=>updateSeq S fun l=>l.pop) _ _ _ from dN (wpAny_updateSeq LS rfl ?_))))
  have S1:=cM (Obj.mapSeq (·.push Value.none)) LS rfl
  refine wpAny_updateSeq (hz:=by seq_fits) S1 rfl ?_
  have S2:=cM (Obj.mapSeq (·.pop)) S1 rfl
  have oth:∀b o,b≠S->(s.heap.push (sit (rawInt 0) 0 a es.size ep)).get? b=some o->(((s.heap.push (sit (rawInt 0) 0 a es.size ep)).update S (Obj.mapSeq (·.push Value.none))).update S (Obj.mapSeq (·.pop))).get? b=some o:=fun b o nb e=>by
   rw[cD _ _ (Ne.symm nb),cD _ _ (Ne.symm nb)]
   exact e
  have out:S∉[s.heap.objs.size,a]:=by
   simp only[aR,cB,or_false,not_or]
   exact⟨aV lS,ne⟩
  refine eC ⟨plainId_quiet PySem.F.plain_extend_loop _,codeAny_extend_loopS W.toS sl S out _ es.size 0 _ #[] _ rfl (aZ _) (W.frame 0 _ _ ST fun b hb o e=>oth b o (fun z=>out (z▸hb)) e) S2 (ItemsOf.nil _) fun s' acc c mv S3 its=>?_⟩
  exact k s' acc c (by rw[ar0 ao4 its];exact ord_perm) (fun b ob nb e=>mv.heap b ob (by simp[nb,aV (aQ e)]) (oth b ob nb (aS _ e))) mv.gens mv.os S3
 ·have nT:s.heap.objs.size≠s.heap.objs.size+1:=aV (cR _)
  have HS:((s.heap.push ({cls:=.type "tuple",data:=.seq (ys.map fun (y:Nat)=>rawInt y).toArray}:Obj)).push (sit (.ref s.heap.objs.size) 0 a es.size ep)).get? a=some (aaZ es ep t):=aS _ (aS _ hS)
  have LS:((s.heap.push ({cls:=.type "tuple",data:=.seq (ys.map fun (y:Nat)=>rawInt y).toArray}:Obj)).push (sit (.ref s.heap.objs.size) 0 a es.size ep)).get? S=some {cls:=.type "list",data:=.seq #[]}:=aS _ (aS _ hL)
  have W:=at3 (A:=A.in1) (ep:=ep) (I:=s.heap.objs.size+1) (T:=s.heap.objs.size) hh (aV (cH la)) nT X hp
  have eI:((s.heap.push ({cls:=.type "tuple",data:=.seq (ys.map fun (y:Nat)=>rawInt y).toArray}:Obj)).push (sit (.ref s.heap.objs.size) 0 a es.size ep)).get? (s.heap.objs.size+1)=some (sit (.ref s.heap.objs.size) 0 a es.size ep):=by
   have:=bC (s.heap.push ({cls:=.type "tuple",data:=.seq (ys.map fun (y:Nat)=>rawInt y).toArray}:Obj)) (o:=sit (.ref s.heap.objs.size) 0 a es.size ep) rfl
   rw[cG] at this
   exact this
  have ST:((s.heap.push ({cls:=.type "tuple",data:=.seq (ys.map fun (y:Nat)=>rawInt y).toArray}:Obj)).push (sit (.ref s.heap.objs.size) 0 a es.size ep)).get? (s.heap.objs.size+1)=some (sit (.ref s.heap.objs.size) 0 a es.size ep)/\((s.heap.push ({cls:=.type "tuple",data:=.seq (ys.map fun (y:Nat)=>rawInt y).toArray}:Obj)).push (sit (.ref s.heap.objs.size) 0 a es.size ep)).get? a=some (aaZ es ep t)/\((s.heap.push ({cls:=.type "tuple",data:=.seq (ys.map fun (y:Nat)=>rawInt y).toArray}:Obj)).push (sit (.ref s.heap.objs.size) 0 a es.size ep)).get? s.heap.objs.size=some {cls:=.type "tuple",data:=.seq (ys.map fun (y:Nat)=>rawInt y).toArray}:=⟨eI,HS,aS _ (bC _ rfl)⟩
  refine dN (dR (atH ⟨_,HS,rfl⟩ ?_))
  rw[if_pos (by decide)]
  refine dN (wpAny_rule (dN (show wpAny _ _ (updateSeq S (fun l=>l.push Value.none) >>=fun _=>updateSeq S fun l=>l.pop) _ _ _ from dN (wpAny_updateSeq LS rfl ?_))))
  have S1:=cM (Obj.mapSeq (·.push Value.none)) LS rfl
  refine wpAny_updateSeq (hz:=by seq_fits) S1 rfl ?_
  have S2:=cM (Obj.mapSeq (·.pop)) S1 rfl
  have oth:∀b o,b≠S->((s.heap.push ({cls:=.type "tuple",data:=.seq (ys.map fun (y:Nat)=>rawInt y).toArray}:Obj)).push (sit (.ref s.heap.objs.size) 0 a es.size ep)).get? b=some o->((((s.heap.push ({cls:=.type "tuple",data:=.seq (ys.map fun (y:Nat)=>rawInt y).toArray}:Obj)).push (sit (.ref s.heap.objs.size) 0 a es.size ep)).update S (Obj.mapSeq (·.push Value.none))).update S (Obj.mapSeq (·.pop))).get? b=some o:=fun b o nb e=>by
   rw[cD _ _ (Ne.symm nb),cD _ _ (Ne.symm nb)]
   exact e
  have out:S∉[s.heap.objs.size+1,a,s.heap.objs.size]:=by
   simp only[aR,cB,or_false,not_or]
   exact⟨aV (cH lS),ne,aV lS⟩
  refine eC ⟨plainId_quiet PySem.F.plain_extend_loop _,codeAny_extend_loopS W.toS sl S out _ es.size 0 _ #[] _ rfl (aZ _) (W.frame 0 _ _ ST fun b hb o e=>oth b o (fun z=>out (z▸hb)) e) S2 (ItemsOf.nil _) fun s' acc c mv S3 its=>?_⟩
  have el:acc.toList=ys.map fun y=>((es.toList.map (·.2))[y]?).getD .none:=by
   refine ar0 (by rw[aM,hp.length_eq,cL]) ⟨its.1,fun i v hv=>?_⟩
   obtain⟨y,h1,h2⟩:=its.2 i v hv
   rw[aY,h1]
   show some (((es.toList.map (·.2))[y]?).getD .none)=_
   rw[h2]
   rfl
  have er:(List.range es.size).map (fun y=>((es.toList.map (·.2))[y]?).getD Value.none)=es.toList.map (·.2):=by
   refine List.ext_getElem? fun i=>?_
   rw[aY]
   by_cases c:i<es.size
   ·rw[List.getElem?_range c]
    show some (((es.toList.map (·.2))[i]?).getD .none)=(es.toList.map (·.2))[i]?
    rw[bU (by rw[aM,bT];exact c)]
    rfl
   ·rw[List.getElem?_eq_none (by rw[cL];omega),List.getElem?_eq_none (by rw[aM,bT];omega)]
    rfl
  refine k s' acc c (by rw[el];exact (hp.map _).trans (List.Perm.of_eq er)) (fun b ob nb e=>mv.heap b ob ?_ (oth b ob nb (aS _ (aS _ e)))) mv.gens mv.os S3
  simp only[aR,cB,or_false,not_or]
  exact⟨nb,aV (cH (aQ e))⟩
theorem atB{Q:List Value->Shared->Prop}(hh:A.handled=none)(hS:s.heap.get? a=some (aaZ es ep t))(X:SetE prog w es t)
  (k:∀(s':Shared) (vs:List Value),vs.Perm (es.toList.map (·.2))->(∀b o,s.heap.get? b=some o->s'.heap.get? b=some o)->s.heap.objs.size<s'.heap.objs.size->s'.gens=s.gens->s'.os=s.os->Q vs s'):wpAny (model prog w) A (collect (.ref a)) Q E s:=by
 let nl:Obj:={cls:=.type "list",data:=.seq ([]:List Value).toArray}
 have S1:(s.heap.push nl).get? s.heap.objs.size=some nl:=bC _ rfl
 unfold collect
 refine dN (wpAny_runValue (codeAny_builtin F.entry_proto_collect ?_))
 rw[Around.under_plainId F.plain_proto_collect _]
 refine dN (dM (eC ⟨plainId_quiet F.plain_list_iadd _,codeAny_builtin F.entry_list_iadd ?_⟩))
 rw[Around.under_plainId F.plain_list_iadd _]
 have key:=auH (A:=A) (s:={s with heap:=s.heap.push nl}) (S:=s.heap.objs.size) (R:=fun q s'=>∃acc c,q=.ok (.ret (.ref s.heap.objs.size))/\acc.toList.Perm (es.toList.map (·.2))/\(∀b o,s.heap.get? b=some o->s'.heap.get? b=some o)/\s'.gens=s.gens/\s'.os=s.os/\s'.heap.get? s.heap.objs.size=some {cls:=.type "list",data:=.seq acc c})
  hh (aS _ hS) X (Nat.ne_of_gt (aQ hS)) S1 fun s' acc c p kp g o e=>⟨acc,c,rfl,p,fun b ob q=>kp b ob (aV (aQ q)) (aS _ q),g,o,e⟩
 have fin:∀s' acc c,acc.toList.Perm (es.toList.map (·.2))->(∀b o,s.heap.get? b=some o->s'.heap.get? b=some o)->s'.gens=s.gens->s'.os=s.os->s'.heap.get? s.heap.objs.size=some {cls:=.type "list",data:=.seq acc c}->
   wpAny (model prog w) A (do let o ←load s.heap.objs.size;match o.data with | .seq xs _=>pure xs.toList | _=>unsupported "internal:collect") Q E s':=fun s' acc c p kp g o e=>dN (wpAny_load e (eC (k s' acc.toList p kp (aQ e) g o)))
 refine dO key (fun f s' x=>?_) fun e s' x=>?_
 ·cases f with
  |done f=>
   obtain⟨acc,c,e,p,kp,g,o,q⟩:=x
   cases e
   exact fin s' acc c p kp g o q
  |again c1=>
   refine⟨x.1,codeAny_mono x.2 fun r s2 y=>?_⟩
   obtain⟨acc,c,rfl,p,kp,g,o,q⟩:=y
   exact fin s2 acc c p kp g o q
 ·obtain⟨_,_,e',_⟩:=x
  cases e'
theorem auJ{Q:Value->Shared->Prop}(hh:A.handled=none)(hS:s.heap.get? a=some (aaZ es ep t))(X:SetE prog w es t)(h64:es.size<64)
  (k:∀(s':Shared) (D:Addr) (vs:List Value) (ns:List Int) (c:Nat),s.heap.objs.size<=D->s'.heap.get? D=some {cls:=.type "list",data:=.seq vs.toArray c}->IntsAre vs ns->ns.Pairwise (·<·)->(∀x,x∈ns↔x∈acC es)->(∀b o,s.heap.get? b=some o->s'.heap.get? b=some o)->s'.gens=s.gens->s'.os=s.os->Q (.ref D) s'):
  wpAny (model prog w) A (call (.builtin "sorted") [.ref a]) Q E s:=by
 refine Calls.call_function_entry kind_sorted plain_sorted entry_sorted (args_sorted1 _) ?_
 unfold Builtin.«sorted»
 refine dN (m:=checkCount "sorted" 1 1 _) (eC (dN (atB (A:=A.in1) hh hS X fun s1 vs hp k1 sz1 g1 o1=>?_)))
 have hl:vs.length=es.size:=by rw[hp.length_eq,aM,bT]
 refine dN (wpAny_newList ?_ (by rw[hl,dQ];omega))
 have hin:IntsAre vs (vs.map zOf):=by
  have all:∀v∈vs,∃t,v=.int (zOf v) t:=fun v hv=>by
   obtain⟨e,he,rfl⟩:=a9.mp (hp.mem_iff.mp hv)
   exact aAP X.el he
  clear hp hl
  induction vs with
  |nil=>exact .nil
  |cons v r ih=>
   obtain⟨t,e⟩:=all v (by simp)
   rw[bR]
   rw[e]
   exact .cons _ _ (ih fun u hu=>all u (bD _ hu))
 have zp:(vs.map zOf).Perm (acC es):=by
  have:=hp.map zOf
  rw[bM] at this
  exact this
 have hoL:(s1.heap.push (seqObj "list" vs.toArray 0)).get? s1.heap.objs.size=some (seqObj "list" vs.toArray 0):=bC _ rfl
 refine dN (dR (wpAny_call_entry slot_list_sort ⟨_,hoL,rfl⟩ entry_list_sort (list_sort_tree hoL hin (by omega) fun out ns' a1 a2 a3=>⟨_,rfl,?_⟩) (args_list_sort _)))
 obtain⟨e,he⟩:=sortedHeap_at (out:=out) hoL
 refine eC ⟨_,rfl,k _ s1.heap.objs.size out.toList ns' e (Nat.le_of_lt sz1) (by rw[Array.toArray_toList];exact he) a1 ?_ (fun x=>by rw[a2.mem_iff,zp.mem_iff]) (fun b ob q=>?_) g1 o1⟩
 ·have nd:ns'.Nodup:=a2.nodup_iff.mpr (zp.nodup_iff.mpr X.nd)
  exact (List.pairwise_and_iff.mpr ⟨a3,nd⟩).imp fun ⟨h1,h2⟩=>by omega
 ·have q1:=k1 b ob q
  have lb:=aQ q1
  rw[sortedHeap_old (aV lb) (by rw[size_push'];exact cH lb)]
  exact aS _ q1
end
noncomputable def stO(P:Program)(w:World)(q:Addr)(ns:List Int):HO:=.ext fun h=>∃es ep t,h.get? q=some (aaZ es ep t)/\SetE P w es t/\∀x,x∈acC es↔x∈ns
theorem Inv.other{X:Cx}{pins:List (Addr×Obj)}{σ:St}{H:Hp}{s s':Shared}(I:Inv X pins σ H s)(e1:s'.heap=s.heap)(e2:s'.gens=s.gens)(e3:s'.os=s.os):Inv X pins σ H s':=by
 obtain⟨h,g,d,t,o⟩:=s
 obtain⟨h',g',d',t',o'⟩:=s'
 cases e1
 cases e2
 cases e3
 exact⟨I.ok,I.os,I.bare,I.base,I.loc,I.cell,I.free,I.freeC,I.pin,I.hok,I.len⟩
theorem asW:∀{ns:List Int} {us:List Value},Vals (ns.map V.int) us->IntsAre us ns
 |[],_,r=>by cases r;exact .nil
 |n::ns,_,.cons h r=>by
  obtain⟨t,rfl⟩:=h
  exact .cons n t (asW r)
theorem ahW:∀(n:Nat) {zs:List Int},zs.Nodup->(∀x∈zs,0<=x/\x<n)->zs.length<=n
 |0,zs,_,hb=>by
  cases zs with
  |nil=>exact aO _
  |cons x r=>
   have:=hb x (by simp)
   omega
 |n+1,zs,hn,hb=>by
  by_cases c:(n:Int)∈zs
  ·have h1:=ahW n (hn.erase (n:Int)) fun x hx=>by
    obtain⟨h2,h3⟩:=hn.mem_erase_iff.mp hx
    have:=hb x h3
    omega
   rw[List.length_erase_of_mem c] at h1
   omega
  ·have h1:=ahW n hn fun x hx=>by
    have:=hb x hx
    have:x≠n:=fun e=>c (e▸hx)
    omega
   omega
section
variable{X:Cx}
theorem cSet(hc:X.calm=true:=by rfl):Cl1 X (.type "set") (fun xs H Q=>∃(p:Addr) (ns:List Int),xs=[.ref p]/\SqL X.K H p (ns.map V.int)/\ns.length+1<4096/\∀q,H q=none->Q (.ref q) (upd H q (stO X.prog X.w q ns))):=by
 refine⟨fun pins s σ H xs us Q I r h=>?_⟩
 obtain⟨p,ns,rfl,hS,hl,k⟩:=h
 obtain⟨u,rfl,ru⟩:=acE r
 cases ru
 obtain⟨its,rv,pl,hlen⟩:=I.list hS
 have hi:=asW rv
 refine ax1 (I.ok.hd hc) pl.isList (by simpa using hi) (by have:=IntsAre.length hi;show its.toArray.size+1<4096;rw[bN];omega) fun h' tk es ep t e SE m kp=>?_
 refine⟨.ref s.heap.objs.size,_,I.laid (a:=s.heap.objs.size) (o:=stO X.prog X.w s.heap.objs.size ns) kp (aO _) ⟨⟨es,ep,t,e,SE,m⟩,⟨_,e⟩,fun h1 h2 ⟨es,ep,t,e,SE,m⟩ kk=>⟨es,ep,t,kk _ e,SE,m⟩⟩,rfl,k _ (I.hok.fresh (aO _))⟩
theorem cSrt(hc:X.calm=true:=by rfl):Cl1 X (.builtin "sorted") (fun xs H Q=>∃(q:Addr) (ns:List Int),xs=[.ref q]/\H q=some (stO X.prog X.w q ns)/\(∀x∈ns,0<=x/\x<63)/\∀(D:Addr) (zs:List Int),H D=none->zs.Pairwise (·<·)->(∀x,x∈zs↔x∈ns)->Q (.ref D) (upd H D (.lst (zs.map V.int)))):=by
 refine⟨fun pins s σ H xs us Q I r h=>?_⟩
 obtain⟨q,ns,rfl,hq,hb,k⟩:=h
 obtain⟨u,rfl,ru⟩:=acE r
 cases ru
 obtain⟨es,ep,t,e,SE,m⟩:=(I.hok q _ hq).1
 have h63:=ahW 63 SE.nd fun x hx=>hb x ((m x).mp hx)
 have hes:es.size<64:=by
  unfold acC at h63
  rw[aM,bT] at h63
  omega
 refine auJ (I.ok.hd hc) e SE hes fun s' D vs zs c lD eD hi hp hm kp g o=>?_
 have vz:=aiS hi
 have lz:zs.length<=63:=ahW 63 (hp.imp fun h=>by omega) fun x hx=>hb x ((m x).mp ((hm x).mp hx))
 have J:=(I.laid (a:=D) (o:=.lst (zs.map V.int)) (t':=s.toks) (h':=s'.heap) kp lD ⟨by rw[aM,dQ];omega,vs,c,vz,eD⟩).other (s':=s') rfl g o
 exact⟨.ref D,_,J,rfl,k D zs (I.hok.fresh lD) hp fun x=>(hm x).trans (m x)⟩
end
section
variable{X:Cx}
end
section
variable{js:List Nat}{σ:St}{tt:TT}{te:TE}{Q:VK}{H1:Hp}
end
theorem ifX{a b:List Nat}{A B:Prop}(h1:a=b->A)(h2:¬a=b->B):if decide (V.str (Tx a)=V.str (Tx b))=true then A else B:=by
 rw[ay6]
 exact ifD h1 h2
theorem agY{a:List Nat}{A B:Prop}(h:A):if decide (V.str (Tx a)=V.str (Tx a))=true then A else B:=ifX (fun _=>h) fun c=>absurd rfl c
theorem abI{a b:List Nat}{A B:Prop}(c:¬a=b)(h:B):if decide (V.str (Tx a)=V.str (Tx b))=true then A else B:=ifX (fun e=>absurd e c) fun _=>h
end L2
namespace KM
open PySem PySem.Spec PyProof.Rows L2
inductive Mk where
 |num (m:Int) | lst (b:Int) | nea (d:Int) | wrk | wkd (m:Int) | nth (w m:Int) | one (w:Int) | nil
 deriving DecidableEq
noncomputable def Lf(l f:Int):Prop:=(28<=l/\l<=31)/\0<=f/\f<=6
noncomputable def ab5(ds:List Int):Int:=(ds.map fun d=>1*2^d.toNat).sum
noncomputable def asc:List Int->Bool
 |[]=>true
 |[_]=>true
 |x::y::r=>decide (x<y)&&asc (y::r)
noncomputable def okA(ds:List Int):Bool:=decide (ds.length<=31)&&(asc ds&&ds.all fun d=>decide (0<=d)&&decide (d<=31))
theorem aAS:∀{ds:List Int},asc ds=true->ds.Pairwise (·<·)
 |[],_=>.nil
 |[_],_=>.cons (fun _ h=>nomatch h) .nil
 |x::y::r,h=>by
  have h':(decide (x<y)&&asc (y::r))=true:=h
  rw[bE] at h'
  have ih:=aAS h'.2
  refine .cons (fun z hz=>?_) ih
  rcases aR.mp hz with rfl | hz
  ·exact dS h'.1
  ·exact Int.lt_trans (dS h'.1) ((cX.mp ih).1 z hz)
theorem apF{ds:List Int}(h:okA ds=true):ds.length<=31/\ds.Pairwise (·<·)/\∀d∈ds,0<=d/\d<=31:=by
 unfold okA at h
 rw[bE,bE] at h
 refine⟨dS h.1,aAS h.2.1,fun d hd=>?_⟩
 have z:=bX.mp h.2.2 d hd
 rw[bE] at z
 exact⟨dS z.1,dS z.2⟩
theorem ar8:∀{zs ns:List Int},zs.Pairwise (·<·)->ns.Pairwise (·<·)->(∀x,x∈zs↔x∈ns)->zs=ns
 |[],[],_,_,_=>rfl
 |[],n::ns,_,_,h=>nomatch (h n).mpr (bB ..)
 |z::zs,[],_,_,h=>nomatch (h z).mp (bB ..)
 |z::zs,n::ns,h1,h2,h=>by
  have p1:=cX.mp h1
  have p2:=cX.mp h2
  have e:z=n:=by
   rcases aR.mp ((h z).mp (bB ..)) with e | hz
   ·exact e
   ·rcases aR.mp ((h n).mpr (bB ..)) with e | hn
    ·exact e.symm
    ·have a:=p2.1 z hz
     have b:=p1.1 n hn
     omega
  subst e
  have ih:=ar8 p1.2 p2.2 fun x=>by
   constructor
   ·intro hx
    rcases aR.mp ((h x).mp (bD _ hx)) with e | hx'
    ·have:=p1.1 x hx;omega
    ·exact hx'
   ·intro hx
    rcases aR.mp ((h x).mpr (bD _ hx)) with e | hx'
    ·have:=p2.1 x hx;omega
    ·exact hx'
  rw[ih]
theorem ak3(ds:List Int):0<=ab5 ds:=by
 unfold ab5
 induction ds with
 |nil=>exact aU 0
 |cons d ds ih=>
  have:=acF d.toNat
  rw[bR,List.sum_cons]
  omega
theorem aw4{n:Nat}:∀{ds:List Int} (a:Nat),ds.Pairwise (·<·)->(∀d∈ds,(a:Int)<=d/\d<(n:Int))->a<=n->ab5 ds+2^a<=2^n
 |[],a,_,_,h=>by
  have:=Nat.pow_le_pow_right (show 0<2 by decide) h
  have e:((2:Int)^a)<=2^n:=by exact_mod_cast this
  show (0:Int)+2^a<=2^n
  omega
 |d::ds,a,hp,hb,h=>by
  have p:=cX.mp hp
  have hd:=hb d (bB ..)
  have ih:=aw4 (n:=n) (d.toNat+1) p.2 (fun z hz=>by
   have:=p.1 z hz
   have:=hb z (bD _ hz)
   omega) (by omega)
  have hm:=Nat.pow_le_pow_right (show 0<2 by decide) (show a<=d.toNat by omega)
  have e:((2:Int)^a)<=2^d.toNat:=by exact_mod_cast hm
  have e2:(2:Int)^(d.toNat+1)=2^d.toNat*2:=Int.pow_succ ..
  unfold ab5 at ih ⊢
  rw[bR,List.sum_cons]
  omega
theorem az4{n:Nat}:∀{ds:List Int} (a:Nat),ds.Pairwise (·<·)->(∀d∈ds,(a:Int)<=d/\d<(n:Int))->a<=n->ds.length+a<=n
 |[],a,_,_,h=>by simpa using h
 |d::ds,a,hp,hb,h=>by
  have p:=cX.mp hp
  have hd:=hb d (bB ..)
  have ih:=az4 (n:=n) (d.toNat+1) p.2 (fun z hz=>by
   have:=p.1 z hz
   have:=hb z (bD _ hz)
   omega) (by omega)
  rw[bF]
  omega
theorem at2{i:Int}{x y:V}(h0:0<=i)(h1:i<2):∃v,atI [x,y] i=some v/\(v=x∨v=y):=by
 have:i=0∨i=1:=by omega
 rcases this with rfl | rfl
 ·exact⟨x,rfl,.inl rfl⟩
 ·exact⟨y,rfl,.inr rfl⟩
noncomputable def anT(m l:Int):Int:=Builtin.bitAnd m (2*2^l.toNat-2)
noncomputable def anR(b l:Int):Int:=if l<=b then 0 else 1*2^(l-b).toNat
noncomputable def ah8(m:Int)(n:Nat):Bool:=decide (Builtin.bitAnd (m / 2^(1+(n:Int)).toNat) 1=1)
noncomputable def adQ(m:Int):Nat->List Int
 |0=>[]
 |n+1=>adQ m n++(if ah8 m n=true then [1+(n:Int)] else [])
noncomputable def bkN(b l:Int):Nat->List Int
 |0=>[]
 |n+1=>bkN b l n++(if decide (1+(n:Int)+b=l)=true then [1+(n:Int)] else [])
noncomputable def nw(d l f:Int):Int:=if (f+d-1)%7=6 then (if 1<d then d-1 else 3) else if (f+d-1)%7=0 then (if d<l then d+1 else l-2) else d
noncomputable def aiL(d l f:Int):Int:=if l<d then 0 else 1*2^(nw d l f).toNat
noncomputable def wk(f:Int)(n:Nat):Bool:=decide (1<=(f+(1+(n:Int))-1)%7)&&decide ((f+(1+(n:Int))-1)%7<=5)
noncomputable def ab6(f:Int):Nat->List Int
 |0=>[]
 |n+1=>ab6 f n++(if wk f n=true then [1+(n:Int)] else [])
noncomputable def ab(i:Int):Int:=if i<0 then -i else i
noncomputable def stp(d acc o:Int):Int:=if acc=0 then o else if ab (o-d)<ab (acc-d) then o else acc
noncomputable def agR(w m f:Int):Int:=1+(w-f)%7+7*(m-1)
noncomputable def ao6(w m l f:Int):Int:=if l<agR w m f then 0 else 1*2^(agR w m f).toNat
noncomputable def ak5(w l f:Int):Int:=l-((f+l-1)%7-w)%7
noncomputable def aDR(w l f:Int):Int:=1*2^(ak5 w l f).toNat
noncomputable def wks(m:Int):Nat->Int
 |0=>0
 |n+1=>Builtin.bitOr (wks m n) (m*2^(7*(0+(n:Int))).toNat)
noncomputable def wkD(m l f:Int):Int:=Builtin.bitAnd (wks m 6 / 2^f.toNat*2^(1:Int).toNat) (2*2^l.toNat-2)
noncomputable def onD(f w:Int)(n:Nat):Bool:=decide ((f+(1+(n:Int))-1)%7=w)
noncomputable def onN(f w:Int):Nat->List Int
 |0=>[]
 |n+1=>onN f w n++(if onD f w n=true then [1+(n:Int)] else [])
noncomputable def apO(m f:Int)(n:Nat):Bool:=decide (Builtin.bitAnd (m / 2^((f+(1+(n:Int))-1)%7).toNat) 1=1)
noncomputable def wkN(m f:Int):Nat->List Int
 |0=>[]
 |n+1=>wkN m f n++(if apO m f n=true then [1+(n:Int)] else [])
noncomputable def am4:List Int:=[1,2,3,4,5,6,7,8,9,10,11,12,13,14,15,16,17,18,19,20,21,22,23,24,25,26,27,28,29,30,31]
noncomputable def ls4:List Int:=[28,29,30,31]
noncomputable def fs7:List Int:=[0,1,2,3,4,5,6]
noncomputable def ms5:List Int:=[1,2,3,4,5]
noncomputable def av1:List Int:=(List.range 128).map fun n:Nat=>(n:Int)
theorem az7:∀l∈ls4,∀b∈0::am4,anR b l=ab5 (bkN b l l.toNat)/\okA (bkN b l l.toNat)=true:=by decide +kernel
theorem az3:∀l∈ls4,∀f∈fs7,∀d∈am4,d<=l->(ab6 f l.toNat).foldl (stp d) 0=nw d l f/\1<=nw d l f/\nw d l f<=31:=by decide +kernel
theorem aAR:∀l∈ls4,∀f∈fs7,atI ((ab6 f l.toNat).map V.int) (-1)=some (V.int (nw l l f)):=by decide +kernel
theorem aw2:∀l∈ls4,∀f∈fs7,∀w∈fs7,∀m∈ms5,ao6 w m l f=ab5 (avM (onN f w l.toNat) (some (m-1)) (some m))/\okA (avM (onN f w l.toNat) (some (m-1)) (some m))=true/\0<=agR w m f/\agR w m f<=100:=by decide +kernel
theorem awT:∀l∈ls4,∀f∈fs7,∀w∈fs7,atI ((onN f w l.toNat).map V.int) (-1)=some (V.int (ak5 w l f))/\0<=ak5 w l f/\ak5 w l f<=31:=by decide +kernel
theorem aq6:∀m∈av1,∀l∈ls4,∀f∈fs7,wkD m l f=ab5 (wkN m f l.toNat)/\okA (wkN m f l.toNat)=true:=by decide +kernel
theorem aCG:∀m∈av1,(∀n:Nat,n<7->(wks m n).natAbs<2^60)/\∀f∈fs7,(wks m 6 / 2^f.toNat).natAbs<2^64:=by decide +kernel
theorem axO{l:Int}(h0:28<=l)(h1:l<=31):l∈ls4:=by
 have:l=28∨l=29∨l=30∨l=31:=by omega
 rcases this with rfl | rfl | rfl | rfl<;>decide
theorem alY{f:Int}(h0:0<=f)(h1:f<=6):f∈fs7:=by
 have:f=0∨f=1∨f=2∨f=3∨f=4∨f=5∨f=6:=by omega
 rcases this with rfl | rfl | rfl | rfl | rfl | rfl | rfl<;>decide
theorem aO8{m:Int}(h0:1<=m)(h1:m<=5):m∈ms5:=by
 have:m=1∨m=2∨m=3∨m=4∨m=5:=by omega
 rcases this with rfl | rfl | rfl | rfl | rfl<;>decide
theorem aAF{m:Int}(h0:0<=m)(h1:m<=127):m∈av1:=by
 unfold av1
 exact a9.mpr ⟨m.toNat,cQ.mpr (by omega),by omega⟩
theorem aO4{d:Int}(h0:1<=d)(h1:d<=31):d∈am4:=by
 have e:d=1+((d-1).toNat:Int):=by omega
 have hn:(d-1).toNat<31:=by omega
 rw[e]
 generalize (d-1).toNat=n at hn
 have all:∀n:Nat,n<31->(1+(n:Int))∈am4:=by decide +kernel
 exact all n hn
theorem aJW{d:Int}(h0:0<=d)(h1:d<=30):d∈0::am4:=by
 by_cases e:d=0
 ·rw[e];exact bB ..
 ·exact bD _ (aO4 (by omega) (by omega))
noncomputable def Ok3(d l f:Int):Prop:=(1<=d/\d<=31)/\(28<=l/\l<=31)/\0<=f/\f<=6
theorem ak0{d l f:Int}(h:Ok3 d l f)(hd:d<=l):(ab6 f l.toNat).foldl (stp d) 0=nw d l f/\1<=nw d l f/\nw d l f<=31:=az3 l (axO h.2.1.1 h.2.1.2) f (alY h.2.2.1 h.2.2.2) d (aO4 h.1.1 h.1.2) hd
theorem Lf.last{l f:Int}(h:Lf l f):Ok3 l l f:=⟨⟨by have:=h.1.1;omega,h.1.2⟩,h.1,h.2⟩
theorem aBL{m:Int}(h:0<=m)(n:Nat):ah8 m n=tb m (n+1):=by
 have e:(1+(n:Int)).toNat=n+1:=by omega
 unfold ah8
 rw[e]
 by_cases c:tb m (n+1)=true
 ·rw[c];exact dU ((acT h _).mpr c)
 ·have c':tb m (n+1)=false:=by simpa using c
  rw[c'];exact dY fun q=>c ((acT h _).mp q)
noncomputable def aAX(m:Int)(i:Nat):Bool:=decide (1<=i)&&tb m i
theorem asT{m:Int}(h:0<=m):∀n:Nat,ab5 (adQ m n)=mk_ (aAX m) (n+1)
 |0=>by
  have e:aAX m 0=false:=rfl
  rw[awJ,aB3,e]
  rfl
 |n+1=>by
  have ih:=asT h n
  rw[awJ,←ih]
  show ab5 (adQ m n++(if ah8 m n=true then [1+(n:Int)] else []))=_
  have e:aAX m (n+1)=ah8 m n:=by rw[aBL h];unfold aAX;simp
  have e1:(1+(n:Int)).toNat=n+1:=by omega
  rw[e]
  unfold ab5
  rw[aT,List.sum_append]
  by_cases c:ah8 m n=true
  ·rw[if_pos c,if_pos c]
   show _+(1*2^(1+(n:Int)).toNat+0)=_
   rw[e1]
   omega
  ·rw[if_neg c,if_neg c]
   rfl
theorem av2(m:Int):∀n:Nat,(adQ m n).length<=n/\(adQ m n).Pairwise (·<·)/\∀d∈adQ m n,0<=d/\d<=n
 |0=>⟨aO _,.nil,fun d hd=>nomatch hd⟩
 |n+1=>by
  obtain⟨h1,hp,h2⟩:=av2 m n
  show (adQ m n++(if ah8 m n=true then [1+(n:Int)] else [])).length<=n+1/\(adQ m n++(if ah8 m n=true then [1+(n:Int)] else [])).Pairwise (·<·)/\∀d∈adQ m n++(if ah8 m n=true then [1+(n:Int)] else []),_
  split
  ·refine⟨by simp;omega,List.pairwise_append.mpr ⟨hp,.cons (fun _ h=>nomatch h) .nil,fun a ha b hb=>?_⟩,fun d hd=>?_⟩
   ·have:b=1+(n:Int):=by simpa using hb
    have:=h2 a ha
    omega
   ·rcases bK.mp hd with z | z
    ·have:=h2 d z;omega
    ·have:d=1+(n:Int):=by simpa using z
     omega
  ·rw[bS]
   refine⟨by omega,hp,fun d hd=>?_⟩
   have:=h2 d hd;omega
theorem azZ{m l:Int}(h:0<=m)(hl:28<=l/\l<=31):anT m l=ab5 (adQ m l.toNat)/\(adQ m l.toNat).length<=31/\(adQ m l.toNat).Pairwise (·<·)/\∀d∈adQ m l.toNat,0<=d/\d<=31:=by
 obtain⟨k1,kp,k2⟩:=av2 m l.toNat
 have hp:=acF l.toNat
 refine⟨?_,by omega,kp,fun d hd=>by have:=k2 d hd;omega⟩
 rw[asT h]
 have e:(2*2^l.toNat-2:Int)=(2^l.toNat-1)*2^1:=by omega
 have n0:(0:Int)<=2^l.toNat-1:=by omega
 have n1:(0:Int)<=(2^l.toNat-1)*2^1:=by omega
 unfold anT
 rw[e]
 refine aa0 (aqV h n1) (axB _ _) fun i=>?_
 rw[amZ h n1,azS n0,av8,awW]
 unfold aAX
 by_cases c1:1<=i
 ·have:(i-1<l.toNat)↔(i<l.toNat+1):=by omega
  simp only[c1,this,decide_true,cY]
  rw[Bool.and_comm]
 ·simp[c1]
theorem ae4(zs:List Int)(z:Int):(zs++[z]).map V.int=zs.map V.int++[V.int z]:=by rw[aT];rfl
theorem rng{l:Int}(hl:28<=l/\l<=31):(-(2^62)<=(1:Int)/\(1:Int)<2^62/\ -(2^62)<=l+1/\l+1<2^62)/\(l+1-1).toNat=l.toNat/\(l+1-1).toNat<=sizeLine:=by
 obtain⟨h0,h1⟩:=hl
 refine⟨⟨by decide,by decide,by omega,by omega⟩,by omega,?_⟩
 rw[dQ]
 omega
noncomputable def akV(w m:Int):List (Str×V):=aaQ "many" (.int m) (aaQ "weekday" (.int w) [])
theorem ne1:¬(("weekday":Str)="many"):=by decide +kernel
theorem ayV(w m:Int):(akV w m).lookup ("weekday":Str)=some (.int w):=by
 unfold akV
 rw[aaD,if_neg ne1,aaD,if_pos rfl]
theorem ayS(w m:Int):(akV w m).lookup ("many":Str)=some (.int m):=by
 unfold akV
 rw[aaD,if_pos rfl]
theorem aCX(w m:Int):(akV w m).lookup ("days":Str)=none:=by
 unfold akV
 rw[aaD,if_neg (by decide +kernel),aaD,if_neg (by decide +kernel)]
 rfl
noncomputable def Mk.due:Mk->Int->Int->Int
 |.num m,l,_=>anT m l
 |.lst b,l,_=>anR b l
 |.nea d,l,f=>aiL d l f
 |.wrk,l,f=>1*2^(nw l l f).toNat
 |.wkd m,l,f=>wkD m l f
 |.nth w m,l,f=>ao6 w m l f
 |.one w,l,f=>aDR w l f
 |.nil,_,_=>0
noncomputable def Mk.ok:Mk->Prop
 |.num m=>0<=m
 |.lst b=>0<=b/\b<=30
 |.nea d=>1<=d/\d<=31
 |.wrk=>True
 |.wkd m=>0<=m/\m<=127
 |.nth w m=>(0<=w/\w<=6)/\1<=m/\m<=5
 |.one w=>0<=w/\w<=6
 |.nil=>True
noncomputable def Mk.wk:Mk->Bool
 |.wkd _ | .nth _ _ | .one _=>true
 |_=>false
noncomputable def Mk.tup:Mk->List V
 |.num m=>[.str (Tx [112,108,97,105,110]),.int m,.int 0]
 |.wkd m=>[.str (Tx [112,108,97,105,110]),.int m,.int 0]
 |.lst b=>[.str (Tx [108,97,115,116]),.int b,.int 0]
 |.nea d=>[.str (Tx [110,101,97,114]),.int d,.int 0]
 |.wrk=>[.str (Tx [119,111,114,107]),.int 0,.int 0]
 |.nth w m=>[.str (Tx [110,116,104]),.int w,.int m]
 |.one w=>[.str (Tx [108,97,115,116,111,110,101]),.int w,.int 0]
 |.nil=>[]
noncomputable def Mk.sp:Mk->Bool
 |.nil=>false
 |_=>true
theorem au0{k:Mk}{l f:Int}(hk:k.ok)(h:Lf l f):0<=k.due l f:=by
 have p1:∀n:Nat,(0:Int)<=1*2^n:=fun n=>by have:=acF n;omega
 cases k with
 |num m=>show 0<=anT m l;rw[(azZ hk h.1).1];exact ak3 _
 |lst b=>show 0<=anR b l;unfold anR;split;exact aU 0;exact p1 _
 |nea d=>show 0<=aiL d l f;unfold aiL;split;exact aU 0;exact p1 _
 |wrk=>exact p1 _
 |wkd m=>show 0<=wkD m l f;rw[(aq6 m (aAF hk.1 hk.2) l (axO h.1.1 h.1.2) f (alY h.2.1 h.2.2)).1];exact ak3 _
 |nth w m=>show 0<=ao6 w m l f;unfold ao6;split;exact aU 0;exact p1 _
 |one w=>exact p1 _
 |nil=>exact aU 0
noncomputable def orK(ks:List Mk)(l f:Int):Int:=orM (ks.map fun k=>k.due l f)
theorem atA(ks:List Mk)(k:Mk)(l f:Int):orK (ks++[k]) l f=Builtin.bitOr (orK ks l f) (k.due l f):=by unfold orK;rw[aT];exact adP _ _
theorem aFW{ks ks':List Mk}{l f:Int}(h:Lf l f)(o:∀k∈ks,k.ok)(o':∀k∈ks',k.ok)(e:∀i,(ks.any fun k=>tb (k.due l f) i)=(ks'.any fun k=>tb (k.due l f) i)):orK ks l f=orK ks' l f:=by
 have n:∀(js:List Mk),(∀k∈js,k.ok)->∀m∈js.map (fun k=>k.due l f),0<=m:=fun js hj m hm=>by
  obtain⟨k,hk,rfl⟩:=a9.mp hm
  exact au0 (hj k hk) h
 refine aa0 (abQ (n ks o)) (abQ (n ks' o')) fun i=>?_
 unfold orK
 rw[abU (n ks o),abU (n ks' o'),cN,cN]
 exact e i
structure Cs where
 (nu la ne lw we nt lo ma:Addr)
noncomputable def MkAt(c:Cs)(H:Hp)(x:Addr):Mk->Prop
 |.num m=>∃dx,H x=some (.ins c.nu dx [("mask",.int m)])
 |.lst b=>∃dx,H x=some (.ins c.la dx [("back",.int b)])
 |.nea d=>∃dx,H x=some (.ins c.ne dx [("day",.int d)])
 |.wrk=>∃dx,H x=some (.ins c.lw dx [])
 |.wkd m=>∃dx,H x=some (.ins c.we dx [("mask",.int m)])
 |.nth w m=>∃dx,H x=some (.ins c.nt dx (akV w m))
 |.one w=>∃dx,H x=some (.ins c.lo dx [("weekday",.int w)])
 |.nil=>∃dx,H x=some (.ins c.ma dx [])
theorem MkAt.keep{c:Cs}{H H':Hp}(s:Keep H H'){x:Addr}{k:Mk}(h:MkAt c H x k):MkAt c H' x k:=by
 cases k<;>(obtain⟨dx,h⟩:=h;exact⟨dx,s.ins h⟩)
noncomputable def PrAt(H:Hp)(p:Addr)(k:Mk):Prop:=k.ok/\k.sp=true/\∃u,H p=some (.tup [.ref u,.bl k.wk])/\H u=some (.tup k.tup)
theorem PrAt.keep{H H':Hp}(s:Keep H H'){p:Addr}{k:Mk}(h:PrAt H p k):PrAt H' p k:=by
 obtain⟨o,e,u,h1,h2⟩:=h
 exact⟨o,e,u,s.tup h1,s.tup h2⟩
noncomputable abbrev Ft(R:Addr->Mk->Prop):List Addr->List Mk->Prop:=Paired R
theorem Ft.get{R:Addr->Mk->Prop}:∀{ps:List Addr} {ks:List Mk},Ft R ps ks->∀{i:Nat} {p:Addr},ps[i]? =some p->∃k,ks[i]? =some k/\R p k
 |_,_,.nil,_,_,h=>nomatch h
 |_,_,.cons r _,0,_,h=>by cases h;exact⟨_,rfl,r⟩
 |_,_,.cons _ t,i+1,_,h=>Ft.get t h
theorem Ft.keepM{c:Cs}{H H':Hp}(s:Keep H H'){ps:List Addr}{ks:List Mk}(h:Ft (MkAt c H) ps ks):Ft (MkAt c H') ps ks:=Paired.imp' (fun _ _ z=>z.keep s) h
theorem Ft.app{R:Addr->Mk->Prop}:∀{ps:List Addr} {ks:List Mk} {ps':List Addr} {ks':List Mk},Ft R ps ks->Ft R ps' ks'->Ft R (ps++ps') (ks++ks')
 |_,_,_,_,.nil,h=>h
 |_,_,_,_,.cons r t,h=>.cons r (Ft.app t h)
end KM
namespace L2
open PySem
theorem aGU{us:List Value}(h:us.length=1):∃a,us=[a]:=by
 cases us with
 |nil=>cases h
 |cons a r=>cases r with
  |nil=>exact⟨a,rfl⟩
  |cons b r=>cases h
theorem aBV{us:List Value}{n:Nat}(h:us.length=n+1):∃a r,us=a::r/\r.length=n:=by
 cases us with
 |nil=>cases h
 |cons a r=>exact⟨a,r,rfl,Nat.succ.inj h⟩
theorem aMW{us:List Value}(h:us.length=2):∃a b,us=[a,b]:=by
 obtain⟨a,r,rfl,h'⟩:=aBV h
 obtain⟨b,rfl⟩:=aGU h'
 exact⟨a,b,rfl⟩
theorem aJZ{us:List Value}(h:us.length=3):∃a b c,us=[a,b,c]:=by
 obtain⟨a,r,rfl,h'⟩:=aBV h
 obtain⟨b,c,rfl⟩:=aMW h'
 exact⟨a,b,c,rfl⟩
theorem aKF{us:List Value}(h:us.length=4):∃a b c d,us=[a,b,c,d]:=by
 obtain⟨a,r,rfl,h'⟩:=aBV h
 obtain⟨b,c,d,rfl⟩:=aJZ h'
 exact⟨a,b,c,d,rfl⟩
theorem len5{us:List Value}(h:us.length=5):∃a b c d e,us=[a,b,c,d,e]:=by
 obtain⟨a,r,rfl,h'⟩:=aBV h
 obtain⟨b,c,d,e,rfl⟩:=aKF h'
 exact⟨a,b,c,d,e,rfl⟩
structure DfA(P:Program)(w:World)(K:FG)(mg:Str->Option Value)(base:Heap)(f:Addr)(k:Nat)(ps:List Str)(sp:Sp):Prop where
 ex:∃fd:FuncData,FnOk P w K mg base CX0 k f fd ps sp/\Binds K fd ps []/\PySem.W.keepIn K (.ref f)=true
theorem Df.at_{P:Program}{w:World}{K:FG}{mg:Str->Option Value}{base:Heap}{x:Str}{k:Nat}{ps:List Str}{sp:Sp}{f:Addr}(D:Df P w K mg base x k ps sp)(hm:mg x=some (.ref f)):DfA P w K mg base f k ps sp:=by
 obtain⟨f',fd,F,hb,hm',kp⟩:=D.ex
 rw[hm] at hm'
 cases hm'
 exact⟨fd,F,hb,kp⟩
noncomputable def aD9(f:Addr)(sp:Sp)(tv:TE)(t:TA):TE:=fun σ H Q=>tv σ H fun v H1=>v=.ref f/\awY sp [] E0 t σ H1 Q
section
variable{X:Cx}{f:Addr}{k k':Nat}{ps:List Str}{sp:Sp}{y:Str}{e:Expr}{es:List Expr}{t:TA}{tv:TE}{p pos:Pos}
theorem eDV(D:DfA X.prog X.w X.K X.mg X.base f k ps sp)(hr:Room k' X.A)(hv:E X (.Name y p) tv)(ha:As X (e::es) t)(hk:k<=k':=by decide)
  (he:starEach (e::es) X.env=(false,eval e X.env)::starEach es X.env:=by rfl) (hpl:(backTo pos (starEach es X.env)).any (·.1)=false:=by rfl):E X (.Call (.Name y p) (e::es) [] pos) (aD9 f sp tv t):=by
 obtain⟨fd,F,hb,kp⟩:=D.ex
 refine⟨fun pins s σ H Q I h=>?_⟩
 refine dZ (thn (hv.h pins s σ H _ I h) fun v s1 ⟨x,H1,I1,r1,ex,q⟩=>?_)
 subst ex
 cases r1
 refine PySem.W.callWith_K (h₀:=X.base) I1.ok.mod.kin kp (thn (ha.h pos pins s1 σ H1 _ I1 q) fun us s2 ⟨vs,H2,I2,r,q2⟩=>⟨I2.kIn,?_⟩) he hpl
 exact arM F (hr.mono hk) hb .nil aoP I2 r q2
end
section
variable{X:Cx}
noncomputable def aNI:V->List V->Hp->VK->Prop:=fun x vs H Q=>∃l p:List Nat,x=.str (Tx l)/\vs=[.str (Tx p)]/\Q (.bl (decide (l.take p.length=p))) H
theorem aFJ(l p:List Nat):(decide (0+(Tx p).length<=(Tx l).length)&&Builtin.Str.subAt (Tx l) (Tx p) 0)=decide (l.take p.length=p):=by
 rw[abC,abC]
 have e:(Tx l).cps.extract 0 (0+(Tx p).length)=(l.take p.length).toArray:=by
  rw[abC]
  show l.toArray.extract 0 (0+p.length)=_
  simp
 have e2:(((l.take p.length).toArray==p.toArray:Bool))=decide (l.take p.length=p):=by
  by_cases h:l.take p.length=p
  ·rw[h];simp
  ·rw[dY h]
   exact beq_eq_false_iff_ne.mpr fun z=>h (by simpa using congrArg Array.toList z)
 unfold Builtin.Str.subAt
 rw[e]
 show (_&&((l.take p.length).toArray==p.toArray))=_
 rw[e2]
 by_cases h:l.take p.length=p
 ·have:0+p.length<=l.length:=by
   have:=congrArg List.length h
   rw[cS] at this
   omega
  rw[dU this,cY]
 ·rw[dY h,Bool.and_false]
theorem aD6:MtR X "str.startswith" aNI:=by
 intro pins s σ H x xs v us Q I rx rv h
 obtain⟨l,p,rfl,rfl,q⟩:=h
 obtain⟨u,rfl,r1⟩:=acE rv
 obtain⟨t',rfl⟩:=r1
 obtain⟨t,rfl⟩:=rx
 refine call_gives PySem.F.slot_str_startswith (typeIs_str _ _ _) PySem.F.entry_str_startswith (PySem.F.args_str_startswith_2 _ _) (gives_str_startswith (Tx l) (Tx p) t t') ?_
 rw[aFJ]
 exact⟨.bl _,H,I,rfl,q⟩
theorem eSwN{o e:Expr}{to te:TE}{apos cpos:Pos}(ho:E X o to)(he:E X e te)(hbase:attributeBase o "startswith" X.env (eval o X.env)=eval o X.env:=by rfl)
  (hfew:((backTo cpos (starEach [e] X.env)).all (fun x=> !x.1)&&(backToKw cpos (keywordEach [] X.env)).all (fun x=>x.1.isSome)&&decide (([e]:List Expr).length+([]:List Keyword).length+(if ([]:List Keyword).isEmpty then 0 else 1)<30))=true:=by rfl)
  (hline:(apos.endLine==cpos.line)=true:=by rfl) (hs:starEach [e] X.env=(false,eval e X.env)::starEach [] X.env:=by rfl) (hplain:(backTo cpos (starEach [] X.env)).any (·.1)=false:=by rfl):
  E X (.Call (.Attribute o "startswith" apos) [e] [] cpos) (tBM X.K "str" aNI to (ajO te aiE)):=
 ⟨asL PySem.F.plainAttrs_str PySem.F.slot_str_startswith PySem.F.type_str_startswith aD6 ho.h (adC he.h afF hs) hbase hfew hline hs hplain⟩
noncomputable def rEw:V->List V->Hp->VK->Prop:=fun x vs H Q=>∃(l:List Nat) (c:Nat),x=.str (Tx l)/\vs=[.str (Tx [c])]/\Q (.bl (decide (l.getLast? =some c))) H
theorem aKT(l:List Nat)(c:Nat):(decide (0+(Tx [c]).length<=(Tx l).length)&&Builtin.Str.subAt (Tx l) (Tx [c]) ((Tx l).length-(Tx [c]).length))=decide (l.getLast? =some c):=by
 rw[abC,abC]
 rcases List.eq_nil_or_concat l with rfl | ⟨r,x,rfl⟩
 ·simp
 ·rw[List.concat_eq_append]
  have e:(Tx (r++[x])).cps.extract ((r++[x]).length - [c].length) ((r++[x]).length - [c].length+(Tx [c]).length)= #[x]:=by
   show (r++[x]).toArray.extract ((r++[x]).length-1) ((r++[x]).length-1+1)= #[x]
   rw[aP,bL,Nat.add_sub_cancel]
   simp
  unfold Builtin.Str.subAt
  rw[e]
  have e2:decide (0+[c].length<=(r++[x]).length)=true:=by simp
  rw[e2,cY,List.getLast?_append,List.getLast?_singleton]
  show (#[x]== #[c])=decide (some x=some c)
  by_cases h:x=c
  ·subst h;simp
  ·have h2:¬some x=some c:=fun z=>h (a8 z)
   rw[dY h2]
   exact beq_eq_false_iff_ne.mpr fun z=>h (by simpa using z)
theorem aIA:MtR X "str.endswith" rEw:=by
 intro pins s σ H x xs v us Q I rx rv h
 obtain⟨l,c,rfl,rfl,q⟩:=h
 obtain⟨u,rfl,r1⟩:=acE rv
 obtain⟨t',rfl⟩:=r1
 obtain⟨t,rfl⟩:=rx
 refine call_gives PySem.F.slot_str_endswith (typeIs_str _ _ _) PySem.F.entry_str_endswith (PySem.F.args_str_endswith_2 _ _) (gives_str_endswith (Tx l) (Tx [c]) t t') ?_
 rw[aKT]
 exact⟨.bl _,H,I,rfl,q⟩
theorem eEw{o e:Expr}{to te:TE}{apos cpos:Pos}(ho:E X o to)(he:E X e te)(hbase:attributeBase o "endswith" X.env (eval o X.env)=eval o X.env:=by rfl)
  (hfew:((backTo cpos (starEach [e] X.env)).all (fun x=> !x.1)&&(backToKw cpos (keywordEach [] X.env)).all (fun x=>x.1.isSome)&&decide (([e]:List Expr).length+([]:List Keyword).length+(if ([]:List Keyword).isEmpty then 0 else 1)<30))=true:=by rfl)
  (hline:(apos.endLine==cpos.line)=true:=by rfl) (hs:starEach [e] X.env=(false,eval e X.env)::starEach [] X.env:=by rfl) (hplain:(backTo cpos (starEach [] X.env)).any (·.1)=false:=by rfl):
  E X (.Call (.Attribute o "endswith" apos) [e] [] cpos) (tBM X.K "str" rEw to (ajO te aiE)):=
 ⟨asL PySem.F.plainAttrs_str PySem.F.slot_str_endswith PySem.F.type_str_endswith aIA ho.h (adC he.h afF hs) hbase hfew hline hs hplain⟩
end
end L2
namespace KM
open PySem PySem.Spec PyProof.Rows L2
noncomputable def adH(t:List Nat):Option Mk:=
 if t=[76] then some (.lst 0) else if t=[76,87] then some .wrk
 else if t.take ([76,45]:List Nat).length=[76,45] then (aaR 1 30 (af2 t (some 2) none)).map Mk.lst
 else if t.getLast? =some 87 then (aaR 1 31 (af2 t none (some (-1)))).map Mk.nea else none
noncomputable def wdN(t:List Nat):Option Int:=(aaR 0 7 t).map fun n=>if n=7 then 0 else n
noncomputable def aDV:Option Int->Option Int->Option Mk
 |some w,some m=>some (.nth w m)
 |_,_=>none
noncomputable def aq0(t:List Nat):Option Mk:=
 if t.getLast? =some 76 then (wdN (af2 t none (some (-1)))).map Mk.one
 else match spl 35 t with
  |[a,b]=>aDV (wdN a) (aaR 1 5 b)
  |_=>none
noncomputable def rdM(wk:Bool)(t:List Nat):Option Mk:=if wk=true then aq0 t else adH t
noncomputable def MkV(c:Cs)(H:Hp)(v:V):Option Mk->Prop
 |none=>v=.non
 |some k=>∃x,v=.ref x/\MkAt c H x k
theorem ab0(c:Nat):∀(l:List Nat),∀w∈spl c l,w.length<=l.length
 |[],w,hw=>by simp[spl] at hw;simp[hw]
 |x::r,w,hw=>by
  have ih:=ab0 c r
  unfold spl at hw
  split at hw
  ·rcases aR.mp hw with z | z
   ·subst z;simp
   ·have:=ih w z;simp;omega
  ·split at hw
   ·rename_i h t e
    rcases aR.mp hw with z | z
    ·subst z
     have:=ih h (by rw[e];simp)
     simp;omega
    ·have:=ih w (by rw[e];simp[z])
     simp;omega
   ·have:w=[x]:=by simpa using hw
    subst this;simp
noncomputable def plP(lo hi:Int)(ws:List (List Nat)):List Int:=ws.filterMap (aaG lo hi)
noncomputable def mkP(wk:Bool)(lo hi:Int)(ws:List (List Nat)):List Mk:=ws.filterMap fun w=>if (aaG lo hi w).isSome=true then none else rdM wk w
theorem aB2{lo hi:Int}{ws:List (List Nat)}{w:List Nat}{m:Int}(h:aaG lo hi w=some m):plP lo hi (ws++[w])=plP lo hi ws++[m]:=by
 unfold plP
 rw[cT]
 simp[h]
theorem aAE{lo hi:Int}{ws:List (List Nat)}{w:List Nat}(h:aaG lo hi w=none):plP lo hi (ws++[w])=plP lo hi ws:=by
 unfold plP
 rw[cT]
 simp[h]
theorem aFX{wk:Bool}{lo hi:Int}{ws:List (List Nat)}{w:List Nat}{m:Int}(h:aaG lo hi w=some m):mkP wk lo hi (ws++[w])=mkP wk lo hi ws:=by
 unfold mkP
 rw[cT]
 simp[h]
theorem ak1{wk:Bool}{lo hi:Int}{ws:List (List Nat)}{w:List Nat}{k:Mk}(h:aaG lo hi w=none)(hk:rdM wk w=some k):mkP wk lo hi (ws++[w])=mkP wk lo hi ws++[k]:=by
 unfold mkP
 rw[cT]
 simp[h,hk]
theorem atO(wk:Bool)(lo hi:Int)(ws:List (List Nat))(i:Nat):(mkP wk lo hi (ws.take i)).length<=(mkP wk lo hi ws).length:=((List.take_sublist i ws).filterMap _).length_le
structure ItemsOk(wk:Bool)(lo hi:Int)(l:List Nat):Prop where
 len:l.length<=300
 few:(spl 44 l).length<=40
 all:∀w∈spl 44 l,(aaG lo hi w).isSome=true∨(rdM wk w).isSome=true
 most:(mkP wk lo hi (spl 44 l)).length<=20
theorem aC4{xs:List V}(h:xs.length<=40):ae8 xs none (some 40)=xs:=by
 unfold ae8
 have e1:HT.sIx xs.length 0 none=0:=rfl
 have e2:xs.length<=HT.sIx xs.length xs.length (some 40):=by
  show xs.length<=HT.sIx xs.length xs.length (some 40)
  unfold HT.sIx
  simp
  omega
 rw[e1,List.drop_zero,Nat.sub_zero]
 exact dG e2
noncomputable def RunV(H:Hp)(r:V):Option (Int×Int)->Prop
 |none=>r=.non
 |some (a,b)=>∃p,r=.ref p/\H p=some (.tup [.int a,.int b])
theorem aCH(es:List (Option Int)):(es.map oV).all aeR=true:=by
 rw[List.all_map]
 refine bX.mpr fun x _=>?_
 cases x<;>rfl
noncomputable def wk7(m:Int):Int:=Builtin.bitAnd (Builtin.bitOr m (m / 2^(7:Int).toNat)) 127
noncomputable def af8(wk:Bool)(m:Int):List Mk:=if m=0 then [] else if wk=true then [.wkd (wk7 m)] else [.num m]
noncomputable def amT(wk:Bool)(lo hi:Int)(l:List Nat):List Mk:=af8 wk (orM (plP lo hi (spl 44 l)))++mkP wk lo hi (spl 44 l)
noncomputable def Cl(t:List Nat):Prop:=(44∉t/\32∉t)/\t≠[]/\t.length<=8
instance (t:List Nat):Decidable (Cl t):=by unfold Cl;exact inferInstance
noncomputable def acP(lo hi:Int)(t:List Nat)(ns:List Int):Prop:=aaG lo hi t=some (aa3 ns)/\Cl t/\(∀n∈ns,lo<=n/\n<=hi)/\ns≠[]/\ns.length<=64
theorem ac6{c:Nat}{a b:List Nat}{d:Nat}(h1:c∉a)(h2:c∉b)(h3:c≠d):c∉a++d::b:=by
 simp only[bK,aR,not_or]
 exact⟨h1,h3,h2⟩
theorem arO{a b:List Nat}{d:Nat}(ha:(44∉a/\32∉a)/\a≠[]/\a.length<=5)(hb:(44∉b/\32∉b)/\b.length<=2)(h1:44≠d)(h2:32≠d):Cl (a++d::b):=by
 refine⟨⟨ac6 ha.1.1 hb.1.1 h1,ac6 ha.1.2 hb.1.2 h2⟩,by simp,?_⟩
 have:=ha.2.2
 have:=hb.2
 rw[aP,bF]
 omega
theorem adU{n:Nat}(h:n<100):(44∉num n/\32∉num n)/\num n≠[]/\(num n).length<=2:=⟨⟨aaU h (by decide),aaU h (by decide)⟩,aE3 n,(abK n h).2.2.2⟩
theorem adZ{a b s lo hi:Int}(h0:0<=a)(h1:b<=63)(hab:a<=b)(hs:0<s)(hl:lo<=a)(hb:b<=hi):(∀n∈ab4 a b s,lo<=n/\n<=hi)/\ab4 a b s≠[]/\(ab4 a b s).length<=64:=by
 refine⟨fun n hn=>?_,fun e=>?_,?_⟩
 ·have:=(ahA hs).mp hn
  omega
 ·have:a∈ab4 a b s:=(ahA hs).mpr ⟨aU _,hab,by rw[Int.sub_self];rfl⟩
  rw[e] at this
  cases this
 ·rw[abY,aM,cL,ahS hs,if_pos hab]
  have:=Int.ediv_le_self (a:=b-a) s (by omega)
  omega
theorem av7(a:Int):ab4 a a 1=[a]:=by
 rw[abY,ahS (by decide),if_pos (aU a),Int.sub_self]
 show [a+((0:Nat):Int)*1]=[a]
 simp
theorem i1{lo hi a:Int}(h0:0<=lo)(h1:lo<=a)(h2:a<=hi)(h3:hi<=63):acP lo hi (num a.toNat) [a]:=by
 have ha:a.toNat<100:=by omega
 have e:=awF (lo:=lo) (hi:=hi) ha (by omega) (by omega)
 rw[bA (by omega)] at e
 have c:=adU ha
 have r:=adZ (a:=a) (b:=a) (s:=1) (lo:=lo) (hi:=hi) (by omega) (by omega) (by omega) (by decide) h1 h2
 have e2:=amH (aaU ha (by decide)) e
 unfold abV at e2
 rw[av7] at e2 r
 exact⟨e2,⟨c.1,c.2.1,by have:=c.2.2;omega⟩,r⟩
theorem i2{lo hi a b:Int}(h0:0<=lo)(h1:lo<=a)(h2:a<=b)(h4:b<=hi)(h3:hi<=63):acP lo hi (num a.toNat++45::num b.toNat) (ab4 a b 1):=by
 have ha:a.toNat<100:=by omega
 have hb:b.toNat<100:=by omega
 have e:=awV (lo:=lo) (hi:=hi) ha hb (by omega) (by omega) (by omega)
 rw[bA (by omega),bA (by omega)] at e
 have ca:=adU ha
 have cb:=adU hb
 exact⟨amH (ac6 (aaU ha (by decide)) (aaU hb (by decide)) (by decide)) e,arO ⟨ca.1,ca.2.1,by have:=ca.2.2;omega⟩ ⟨cb.1,cb.2.2⟩ (by decide) (by decide),adZ (by omega) (by omega) h2 (by decide) h1 h4⟩
theorem i0{lo hi:Int}(h0:0<=lo)(h1:lo<=hi)(h3:hi<=63):acP lo hi [42] (ab4 lo hi 1):=
 ⟨amH (by decide) atN,by decide,adZ h0 h3 h1 (by decide) (aU _) (aU _)⟩
theorem i3{lo hi s:Int}(h0:0<=lo)(h1:lo<=hi)(h3:hi<=63)(hs:1<=s/\s<=99):acP lo hi ([42]++47::num s.toNat) (ab4 lo hi s):=by
 have hs':s.toNat<100:=by omega
 have e:=al4 (show 47∉[42] by decide) (atN (lo:=lo) (hi:=hi)) hs' (by omega)
 rw[if_neg (by decide),bA (by omega)] at e
 have cs:=adU hs'
 exact⟨e,arO (by decide) ⟨cs.1,cs.2.2⟩ (by decide) (by decide),adZ h0 h3 h1 (by omega) (aU _) (aU _)⟩
theorem i4{lo hi a s:Int}(h0:0<=lo)(h1:lo<=a)(h2:a<=hi)(h3:hi<=63)(hs:1<=s/\s<=99):acP lo hi (num a.toNat++47::num s.toNat) (ab4 a hi s):=by
 have ha:a.toNat<100:=by omega
 have hs':s.toNat<100:=by omega
 have e1:=awF (lo:=lo) (hi:=hi) ha (by omega) (by omega)
 have e:=al4 (aaU ha (by decide)) e1 hs' (by omega)
 rw[if_pos (abK _ ha).1,bA (by omega),bA (by omega)] at e
 have ca:=adU ha
 have cs:=adU hs'
 exact⟨e,arO ⟨ca.1,ca.2.1,by have:=ca.2.2;omega⟩ ⟨cs.1,cs.2.2⟩ (by decide) (by decide),adZ (by omega) h3 h2 (by omega) h1 (aU _)⟩
theorem i5{lo hi a b s:Int}(h0:0<=lo)(h1:lo<=a)(h2:a<=b)(h4:b<=hi)(h3:hi<=63)(hs:1<=s/\s<=99):acP lo hi ((num a.toNat++45::num b.toNat)++47::num s.toNat) (ab4 a b s):=by
 have ha:a.toNat<100:=by omega
 have hb:b.toNat<100:=by omega
 have hs':s.toNat<100:=by omega
 have e1:=awV (lo:=lo) (hi:=hi) ha hb (by omega) (by omega) (by omega)
 have e:=al4 (ac6 (aaU ha (by decide)) (aaU hb (by decide)) (by decide)) e1 hs' (by omega)
 rw[if_neg (by rw[aFH (c:=45) (by simp) (by decide)];exact aW),bA (by omega),bA (by omega),bA (by omega)] at e
 have ca:=adU ha
 have cb:=adU hb
 have cs:=adU hs'
 refine⟨e,arO ⟨⟨ac6 ca.1.1 cb.1.1 (by decide),ac6 ca.1.2 cb.1.2 (by decide)⟩,by simp,?_⟩ ⟨cs.1,cs.2.2⟩ (by decide) (by decide),adZ (by omega) (by omega) h2 (by omega) h1 h4⟩
 have:=ca.2.2
 have:=cb.2.2
 rw[aP,bF]
 omega
theorem azP:∀{zs:List Int},zs.Pairwise (·<·)->(∀z∈zs,0<=z)->∀i,0<=ab5 zs/\tb (ab5 zs) i=zs.any fun z=>decide (z.toNat=i):=by
 intro zs hp hn i
 have key:∀(n:Nat) (ys:List Int),ys.length=n->ys.Pairwise (·<·)->(∀z∈ys,0<=z)->ab5 ys=aa3 ys:=by
  intro n
  induction n with
  |zero=>intro ys h _ _;rw[List.length_eq_zero_iff.mp h];rfl
  |succ n ih=>
   intro ys hl hp hn
   rcases List.eq_nil_or_concat ys with rfl | ⟨r,z,rfl⟩
   ·cases hl
   rw[List.concat_eq_append] at hl hp hn ⊢
   have hpa:=List.pairwise_append.mp hp
   have er:=ih r (by rw[aP,bL] at hl;omega) hpa.1 fun x hx=>hn x (List.mem_append_left _ hx)
   have hz:=hn z (bV _ (bG.mpr rfl))
   have hb:tb (aa3 r) z.toNat=false:=by
    rw[aa2,cJ]
    intro x hx
    have h1:=hpa.2.2 x hx z (bG.mpr rfl)
    have h2:=hn x (List.mem_append_left _ hx)
    have:¬x.toNat=z.toNat:=by omega
    simpa using this
   have e1:ab5 (r++[z])=ab5 r+1*2^z.toNat:=by unfold ab5;rw[aT,List.sum_append];show _+(1*2^z.toNat+0)=_;omega
   have hnn:=aaS r
   have hp2:=Int.le_of_lt (acF z.toNat)
   rw[e1,er,alP]
   refine aa0 (by omega) (adD hnn (by omega)) fun j=>?_
   have e3:(1*2^z.toNat:Int)=2^z.toNat:=by omega
   have hz0:Builtin.bitAnd (aa3 r) (2^z.toNat)=0:=by
    refine aa0 (aqV hnn hp2) (aU 0) fun k=>?_
    rw[amZ hnn hp2,aAK,abL]
    by_cases c:z.toNat=k
    ·subst c;rw[hb];rfl
    ·simp[c]
   have ea:aa3 r+2^z.toNat=Builtin.bitOr (aa3 r) (2^z.toNat):=by rw[bitOr_and,hz0];omega
   rw[e3,ea]
 rw[key _ zs rfl hp hn]
 exact⟨aaS _,aa2 _ _⟩
theorem adF{zs ns:List Int}(hp:zs.Pairwise (·<·))(hm:∀x,x∈zs↔x∈ns)(hn:∀n∈ns,0<=n):ab5 zs=aa3 ns:=by
 have h:=azP hp fun z hz=>hn z ((hm z).mp hz)
 refine aa0 (h 0).1 (aaS _) fun i=>?_
 rw[(h i).2,aa2,b7,bY,bY]
 exact⟨fun ⟨z,hz,e⟩=>⟨z,(hm z).mp hz,e⟩,fun ⟨z,hz,e⟩=>⟨z,(hm z).mpr hz,e⟩⟩
theorem ac1{m:Int}(h:0<=m)(i:Nat):0<=wk7 m/\tb (wk7 m) i=((tb m i||tb m (7+i))&&decide (i<7)):=by
 have h1:(0:Int)<=m / 2^(7:Int).toNat:=Int.ediv_nonneg h (by decide)
 unfold wk7
 refine⟨aqV (adD h h1) (by decide),?_⟩
 rw[amZ (adD h h1) (by decide),ahE h h1,azB h]
 have e:tb 127 i=decide (i<7):=av8 7 i
 rw[e]
 rfl
theorem alH{ms:List Int}(h:∀m∈ms,0<=m):orM ms=0↔∀m∈ms,m=0:=by
 constructor
 ·intro e m hm
  refine aa0 (h m hm) (aU 0) fun i=>?_
  have z:=abU h i
  rw[e,abL] at z
  have:=cJ.mp z.symm m hm
  rw[abL]
  simpa using this
 ·intro e
  refine aa0 (abQ h) (aU 0) fun i=>?_
  rw[abU h,abL,cJ]
  intro m hm
  rw[e m hm,abL]
  exact aW
theorem auM{ms:List Int}(h:∀m∈ms,0<=m):wk7 (orM ms)=orM (ms.map wk7):=by
 have h':∀m∈ms.map wk7,0<=m:=fun m hm=>by
  obtain⟨z,hz,rfl⟩:=a9.mp hm
  exact (ac1 (h z hz) 0).1
 refine aa0 (ac1 (abQ h) 0).1 (abQ h') fun i=>?_
 rw[(ac1 (abQ h) i).2,abU h,abU h,abU h',cN,b7]
 simp only[bE,Bool.or_eq_true,bY,dX,Function.comp]
 constructor
 ·rintro⟨⟨m,hm,e⟩ | ⟨m,hm,e⟩,hi⟩
  ·exact⟨m,hm,by rw[(ac1 (h m hm) i).2,e,dU hi];rfl⟩
  ·exact⟨m,hm,by rw[(ac1 (h m hm) i).2,e,dU hi,Bool.or_true];rfl⟩
 ·rintro⟨m,hm,e⟩
  rw[(ac1 (h m hm) i).2,bE,Bool.or_eq_true,dX] at e
  rcases e with ⟨e | e,hi⟩
  ·exact⟨.inl ⟨m,hm,e⟩,hi⟩
  ·exact⟨.inr ⟨m,hm,e⟩,hi⟩
theorem aDJ{m:Int}(h0:0<m)(h1:m<=255):wk7 m≠0/\0<=wk7 m/\wk7 m<=127:=by
 have all:∀n:Nat,n<256->0<n->wk7 (n:Int)≠0/\0<=wk7 (n:Int)/\wk7 (n:Int)<=127:=by decide +kernel
 have e:m=((m.toNat:Nat):Int):=by omega
 rw[e]
 exact all m.toNat (by omega) (by omega)
noncomputable def SpT(b:Bool)(t:List Nat):Mk->Prop
 |.num m=>b=false/\aaG 1 31 t=some m/\0<m
 |.wkd m=>b=true/\∃M,aaG 0 7 t=some M/\(0<M/\M<=255)/\m=wk7 M
 |.nil=>False
 |k=>aaG (if b=true then 0 else 1) (if b=true then 7 else 31) t=none/\rdM b t=some k
theorem ap2:SpT false [76] (.lst 0)/\Cl [76]:=by
 refine⟨⟨?_,?_⟩,by decide⟩<;>decide +kernel
theorem arN:SpT false [76,87] .wrk/\Cl [76,87]:=by
 refine⟨⟨?_,?_⟩,by decide⟩<;>decide +kernel
theorem avC:∀n:Nat,n<31->1<=n->(aaG 1 31 ([76,45]++num n)=none/\rdM false ([76,45]++num n)=some (.lst n))/\Cl ([76,45]++num n):=by decide +kernel
theorem au7:∀n:Nat,n<32->1<=n->(aaG 1 31 (num n++[87])=none/\rdM false (num n++[87])=some (.nea n))/\Cl (num n++[87]):=by decide +kernel
theorem aDS:∀n:Nat,n<8->(aaG 0 7 (num n++[76])=none/\rdM true (num n++[76])=some (.one ((n:Int)%7)))/\Cl (num n++[76]):=by decide +kernel
theorem aDK:∀n:Nat,n<8->∀m:Nat,m<6->1<=m->(aaG 0 7 (num n++[35]++num m)=none/\rdM true (num n++[35]++num m)=some (.nth ((n:Int)%7) m))/\Cl (num n++[35]++num m):=by decide +kernel
theorem aB5{zs ns:List Int}(hp:zs.Pairwise (·<·))(hm:∀x,x∈zs↔x∈ns.map fun d=>d%7)(hn:∀n∈ns,0<=n/\n<=7):ab5 zs=wk7 (aa3 ns):=by
 rw[adF hp hm fun n hn'=>by obtain⟨d,_,rfl⟩:=a9.mp hn';show 0<=d%7;omega]
 refine aa0 (aaS _) (ac1 (aaS _) 0).1 fun i=>?_
 rw[(ac1 (aaS ns) i).2,aa2,aa2,aa2,b7]
 simp only[bE,Bool.or_eq_true,bY,dX,a9]
 constructor
 ·rintro⟨_,⟨d,hd,rfl⟩,e⟩
  have:=hn d hd
  by_cases c:d=7
  ·exact⟨.inr ⟨d,hd,by omega⟩,by omega⟩
  ·exact⟨.inl ⟨d,hd,by omega⟩,by omega⟩
 ·rintro⟨⟨d,hd,e⟩ | ⟨d,hd,e⟩,hi⟩
  ·have:=hn d hd
   exact⟨d%7,⟨d,hd,rfl⟩,by omega⟩
  ·have:=hn d hd
   exact⟨d%7,⟨d,hd,rfl⟩,by omega⟩
theorem acV{ns:List Int}(h:ns≠[])(hn:∀n∈ns,0<=n):0<aa3 ns:=by
 have h0:=aaS ns
 rcases Int.lt_or_eq_of_le h0 with h1 | h1
 ·exact h1
 ·cases ns with
  |nil=>exact absurd rfl h
  |cons n r=>
   have z:=aa2 (n::r) n.toNat
   rw[←h1,abL,bW] at z
   simp at z
theorem ahY{ns:List Int}{n:Nat}(hn:∀z∈ns,0<=z/\z<(n:Int)):aa3 ns<2^n:=by
 have e:aa3 ns=mk_ (tb (aa3 ns)) n:=by
  refine aa0 (aaS _) (axB _ _) fun i=>?_
  rw[awW]
  by_cases c:i<n
  ·rw[dU c,cY]
  ·rw[dY c,Bool.false_and,aa2,cJ]
   intro z hz
   have:=hn z hz
   have:¬z.toNat=i:=by omega
   simpa using this
 rw[e]
 exact azI _ _
end KM
namespace L2
open PySem PySem.Spec PyProof.Rows PySem.SeqAt
section
variable{X:Cx}
end
end L2
namespace KM
open PySem PySem.Spec PyProof.Rows L2
noncomputable def TpAt(b:Bool)(H:Hp)(u:Addr)(k:Mk):Prop:=H u=some (.tup k.tup)/\k.sp=true/\k.wk=b/\k.ok
theorem TpAt.keep{b:Bool}{H H':Hp}(s:Keep H H'){u:Addr}{k:Mk}(h:TpAt b H u k):TpAt b H' u k:=⟨s.tup h.1,h.2⟩
theorem Ft.keepT{b:Bool}{H H':Hp}(s:Keep H H'){ps:List Addr}{ks:List Mk}(h:Ft (TpAt b H) ps ks):Ft (TpAt b H') ps ks:=Paired.imp' (fun _ _ z=>z.keep s) h
theorem Ft.okT{b:Bool}{H:Hp}:∀{ps:List Addr} {ks:List Mk},Ft (TpAt b H) ps ks->∀k∈ks,k.sp=true/\k.wk=b/\k.ok
 |_,_,.nil,k,hk=>nomatch hk
 |_,_,.cons r t,k,hk=>by
  rcases aR.mp hk with rfl | hk
  ·exact r.2
  ·exact Ft.okT t k hk
noncomputable def Mk.pl:Mk->Option Int
 |.num m=>some m
 |.wkd m=>some m
 |_=>none
noncomputable def plK(ks:List Mk):List Int:=ks.filterMap Mk.pl
noncomputable def otK(ks:List Mk):List Mk:=ks.filter fun k=>k.pl.isNone
theorem ak8{ks:List Mk}{k:Mk}{m:Int}(h:k.pl=some m):plK (ks++[k])=plK ks++[m]/\otK (ks++[k])=otK ks:=by
 unfold plK otK
 rw[cT,dH]
 simp[h]
theorem agQ{ks:List Mk}{k:Mk}(h:k.pl=none):plK (ks++[k])=plK ks/\otK (ks++[k])=otK ks++[k]:=by
 unfold plK otK
 rw[cT,dH]
 simp[h]
noncomputable def abM(b:Bool)(M:Int):List Mk:=if M=0 then [] else if b=true then [.wkd M] else [.num M]
noncomputable def abN(b:Bool)(ks:List Mk):List Mk:=abM b (orM (plK ks))++otK ks
theorem arU{b:Bool}{ks:List Mk}(h:∀k∈ks,k.sp=true/\k.wk=b/\k.ok):∀m∈plK ks,0<=m/\(b=true->m<=127):=by
 intro m hm
 obtain⟨k,hk,e⟩:=dE.mp hm
 have:=h k hk
 cases k with
 |num z=>cases e;exact⟨this.2.2,fun hb=>by rw[←this.2.1] at hb;cases hb⟩
 |wkd z=>cases e;exact⟨this.2.2.1,fun _=>this.2.2.2⟩
 |lst z=>cases e
 |nea z=>cases e
 |wrk=>cases e
 |nth z y=>cases e
 |one z=>cases e
 |nil=>cases e
theorem auL{ms:List Int}{n:Nat}(h:∀m∈ms,0<=m/\m<2^n):orM ms<2^n:=by
 have h0:∀m∈ms,0<=m:=fun m hm=>(h m hm).1
 have e:orM ms=mk_ (tb (orM ms)) n:=by
  refine aa0 (abQ h0) (axB _ _) fun i=>?_
  rw[awW]
  by_cases c:i<n
  ·rw[dU c,cY]
  ·rw[dY c,Bool.false_and,abU h0,cJ]
   intro m hm
   rw[abJ (h m hm).2 (by omega)]
   exact aW
 rw[e]
 exact azI _ _
theorem avZ{b:Bool}{ks:List Mk}(h:∀k∈ks,k.sp=true/\k.wk=b/\k.ok):∀k∈abM b (orM (plK ks)),k.sp=true/\k.wk=b/\k.ok:=by
 have hp:=arU h
 have h0:0<=orM (plK ks):=abQ fun m hm=>(hp m hm).1
 intro k hk
 unfold abM at hk
 split at hk
 ·cases hk
 ·split at hk
  ·rename_i hb
   rw[bG.mp hk,hb]
   have e:(2:Int)^7=128:=by decide
   have:=auL (n:=7) (ms:=plK ks) fun m hm=>⟨(hp m hm).1,by have:=(hp m hm).2 hb;omega⟩
   exact⟨rfl,rfl,h0,by omega⟩
  ·rename_i hb
   rw[bG.mp hk]
   exact⟨rfl,by cases b with | true=>exact absurd rfl hb | false=>rfl,h0⟩
noncomputable abbrev Ws(b:Bool):List (List Nat)->List Mk->Prop:=Paired fun w k=>Cl w/\SpT b w k
noncomputable def lo_(b:Bool):Int:=if b=true then 0 else 1
noncomputable def hi_(b:Bool):Int:=if b=true then 7 else 31
theorem ak6(k:Mk)(ks:List Mk):plK (k::ks)=(match k.pl with | some m=>m::plK ks | none=>plK ks)/\otK (k::ks)=(match k.pl with | some _=>otK ks | none=>k::otK ks):=by
 unfold plK otK
 rw[cZ,List.filter_cons]
 cases k.pl<;>exact⟨rfl,rfl⟩
theorem aBK(b:Bool)(lo hi:Int)(w:List Nat)(ws:List (List Nat)):plP lo hi (w::ws)=(match aaG lo hi w with | some m=>m::plP lo hi ws | none=>plP lo hi ws)/\mkP b lo hi (w::ws)=(match aaG lo hi w with | some _=>mkP b lo hi ws | none=>match rdM b w with | some k=>k::mkP b lo hi ws | none=>mkP b lo hi ws):=by
 unfold plP mkP
 rw[cZ,cZ]
 cases aaG lo hi w with
 |some m=>exact⟨rfl,rfl⟩
 |none=>exact⟨rfl,by cases rdM b w<;>rfl⟩
noncomputable def WsI(b:Bool)(ws:List (List Nat))(ks:List Mk):Prop:=mkP b (lo_ b) (hi_ b) ws=otK ks/\plK ks=(plP (lo_ b) (hi_ b) ws).map (fun m=>if b=true then wk7 m else m)/\(∀m∈plP (lo_ b) (hi_ b) ws,0<m/\(b=true->m<=255))/\∀w∈ws,(aaG (lo_ b) (hi_ b) w).isSome=true∨(rdM b w).isSome=true
theorem asN(b:Bool):∀{ws:List (List Nat)} {ks:List Mk},Ws b ws ks->WsI b ws ks
 |_,_,.nil=>⟨rfl,rfl,fun m hm=>(nomatch hm),fun w hw=>(nomatch hw)⟩
 |w::ws,k::ks,.cons r t=>by
  obtain⟨i1,i2,i3,i4⟩:=asN b t
  have c1:=ak6 k ks
  have c2:=aBK b (lo_ b) (hi_ b) w ws
  have plain:∀(m M:Int),k.pl=some m->aaG (lo_ b) (hi_ b) w=some M->(m=if b=true then wk7 M else M)->(0<M/\(b=true->M<=255))->WsI b (w::ws) (k::ks):=fun m M e1 e2 e3 e4=>by
   unfold WsI
   rw[e1] at c1
   rw[e2] at c2
   rw[c1.1,c1.2,c2.1,c2.2]
   refine⟨i1,by rw[bR,←e3,←i2],fun z hz=>?_,fun v hv=>?_⟩
   ·rcases aR.mp hz with rfl | hz
    ·exact e4
    ·exact i3 z hz
   ·rcases aR.mp hv with rfl | hv
    ·exact .inl (by rw[e2];rfl)
    ·exact i4 v hv
  have mark:k.pl=none->aaG (lo_ b) (hi_ b) w=none->rdM b w=some k->WsI b (w::ws) (k::ks):=fun e1 e2 e3=>by
   unfold WsI
   rw[e1] at c1
   rw[e2,e3] at c2
   rw[c1.1,c1.2,c2.1,c2.2]
   refine⟨by rw[i1],i2,i3,fun v hv=>?_⟩
   rcases aR.mp hv with rfl | hv
   ·exact .inr (by rw[e3];rfl)
   ·exact i4 v hv
  cases k with
  |num m=>
   obtain⟨_,hb,hr,h0⟩:=r
   subst hb
   exact plain m m rfl hr rfl ⟨h0,fun z=>nomatch z⟩
  |wkd m=>
   obtain⟨_,hb,M,hr,h0,hm⟩:=r
   subst hb
   exact plain m M rfl hr hm ⟨h0.1,fun _=>h0.2⟩
  |lst z=>exact mark rfl r.2.1 r.2.2
  |nea z=>exact mark rfl r.2.1 r.2.2
  |wrk=>exact mark rfl r.2.1 r.2.2
  |nth z y=>exact mark rfl r.2.1 r.2.2
  |one z=>exact mark rfl r.2.1 r.2.2
  |nil=>exact r.2.elim
theorem asQ{b:Bool}{ws:List (List Nat)}{ks:List Mk}{l:List Nat}(h:Ws b ws ks)(hl:spl 44 l=ws):amT b (lo_ b) (hi_ b) l=abN b ks:=by
 obtain⟨i1,i2,i3,_⟩:=asN b h
 have hz:∀m∈plP (lo_ b) (hi_ b) ws,0<=m:=fun m hm=>Int.le_of_lt (i3 m hm).1
 unfold amT abN
 rw[hl,i1,i2]
 congr 1
 cases b with
 |false=>
  have e:(plP (lo_ false) (hi_ false) ws).map (fun m=>if false=true then wk7 m else m)=plP (lo_ false) (hi_ false) ws:=List.map_id'' (fun _=>rfl) _
  rw[e]
  rfl
 |true=>
  have e:orM ((plP (lo_ true) (hi_ true) ws).map (fun m=>if true=true then wk7 m else m))=wk7 (orM (plP (lo_ true) (hi_ true) ws)):=(auM hz).symm
  rw[e]
  unfold af8 abM
  by_cases c:orM (plP (lo_ true) (hi_ true) ws)=0
  ·rw[if_pos c,c]
   rfl
  ·have c2:¬wk7 (orM (plP (lo_ true) (hi_ true) ws))=0:=fun z=>c (by
    rw[auM hz] at z
    have h0:∀m∈(plP (lo_ true) (hi_ true) ws).map wk7,0<=m:=fun m hm=>by
     obtain⟨y,hy,rfl⟩:=a9.mp hm
     exact (ac1 (hz y hy) 0).1
    rw[alH hz]
    intro m hm
    have:=(alH h0).mp z (wk7 m) (a9.mpr ⟨m,hm,rfl⟩)
    exact absurd this (aDJ (i3 m hm).1 ((i3 m hm).2 rfl)).1)
   rw[if_neg c,if_neg c2]
   rfl
theorem none_of{H H':Hp}(s:Same H H'){p:Addr}(h:H' p=none):H p=none:=by
 cases e:H p with
 |none=>rfl
 |some o=>rw[s _ _ e] at h;cases h
theorem ae3:∀(ws:List (List Nat)),(∀w∈ws,w.length<=8)->(aaK 44 ws).length<=9*ws.length
 |[],_=>aZ _
 |[w],h=>by
  have:=h w (bB ..)
  show w.length<=9
  omega
 |w::v::ws,h=>by
  have ih:=ae3 (v::ws) fun z hz=>h z (bD _ hz)
  have:=h w (bB ..)
  show (w++44::aaK 44 (v::ws)).length<=_
  rw[aP,bF,bF]
  omega
theorem Ws.cl{b:Bool}:∀{ws:List (List Nat)} {ks:List Mk},Ws b ws ks->∀w∈ws,Cl w
 |_,_,.nil,w,hw=>nomatch hw
 |_,_,.cons r t,w,hw=>by
  rcases aR.mp hw with rfl | hw
  ·exact r.1
  ·exact Ws.cl t w hw
theorem aDM{b:Bool}{ws:List (List Nat)}{ks:List Mk}(h:Ws b ws ks)(hne:ws≠[])(hn:ws.length<=20):spl 44 (aaK 44 ws)=ws/\ItemsOk b (lo_ b) (hi_ b) (aaK 44 ws):=by
 have hs:=acG 44 ws hne fun w hw=>(h.cl w hw).1.1
 have hl:=ae3 ws fun w hw=>(h.cl w hw).2.2
 refine⟨hs,by omega,by rw[hs];omega,?_,?_⟩
 ·rw[hs]
  exact (asN b h).2.2.2
 ·rw[hs]
  exact bJ (List.length_filterMap_le ..) hn
theorem an3(c:Nat):∀(a b:List (List Nat)),a≠[]->b≠[]->aaK c (a++b)=aaK c a++c::aaK c b
 |[],_,h,_=>absurd rfl h
 |[p],b,_,hb=>by
  cases b with
  |nil=>exact absurd rfl hb
  |cons q r=>rfl
 |p::q::r,b,_,hb=>by
  have ih:=an3 c (q::r) b (by simp) hb
  show p++c::aaK c ((q::r)++b)=(p++c::aaK c (q::r))++c::aaK c b
  rw[ih]
  simp
noncomputable def PrT(H:Hp)(ts:List Addr)(prs:List (Nat×Nat)):Prop:=Paired (fun (t:Addr) (pr:Nat×Nat)=>H t=some (.tup [.int pr.1,.int pr.2])) ts prs
theorem PrT.keep{H H':Hp}{ts:List Addr}{prs:List (Nat×Nat)}(h:PrT H ts prs)(k:Keep H H'):PrT H' ts prs:=Paired.mapP h fun _ _ z=>k.tup z
theorem Paired.at{α β:Type}{F:α->β->Prop}:∀{l:List α} {r:List β} {i:Nat} {a:α},Paired F l r->l[i]? =some a->∃b,r[i]? =some b/\F a b
 |_,_,_,_,.nil,e=>by simp at e
 |_,_,0,_,.cons h _,e=>by
  have:=a8 e
  subst this
  exact⟨_,rfl,h⟩
 |_,_,i+1,_,.cons _ t,e=>Paired.at (i:=i) t e
theorem Paired.len{α β:Type}{F:α->β->Prop}:∀{l:List α} {r:List β},Paired F l r->l.length=r.length
 |_,_,.nil=>rfl
 |_,_,.cons _ t=>congrArg (·+1) (Paired.len t)
theorem ad4{m:Int}(h:m<2^64):∀{prs:List (Nat×Nat)} {lo:Nat},aeJ m lo prs->∀x∈prs,lo<=x.1/\x.1<=x.2/\x.2<=63
 |[],_,_,x,hx=>nomatch hx
 |(s,e)::r,lo,hr,x,hx=>by
  have he:e<=63:=by
   have:=hr.2.2.2.1 e hr.2.2.1 (aO _)
   rcases cA e 64 with y | y
   ·omega
   ·rw[abJ h y] at this;cases this
  rcases aR.mp hx with z | z
  ·subst z
   exact⟨hr.1,hr.2.2.1,he⟩
  ·have:=ad4 h hr.2.2.2.2.2 x z
   have h1:=hr.1
   have h2:=hr.2.2.1
   exact⟨by omega,this.2⟩
theorem ahL{m:Int}(h:m<2^64):∀{prs:List (Nat×Nat)} {lo:Nat},aeJ m lo prs->lo<=65->lo+2*prs.length<=65
 |[],_,_,hl=>hl
 |(s,e)::r,lo,hr,hl=>by
  have h3:=(ad4 h hr (s,e) (by simp)).2.2
  have h1:=hr.1
  have h2:=hr.2.2.1
  have:=ahL h (prs:=r) (lo:=e+2) hr.2.2.2.2.2 (by show e+2<=65;have h3:e<=63:=h3;omega)
  show lo+2*(r.length+1)<=65
  omega
theorem aiH{m:Int}:∀{prs prs':List (Nat×Nat)} {lo:Nat},aeJ m lo prs->aeJ m lo prs'->prs=prs'
 |[],[],_,_,_=>rfl
 |[],(s,e)::r,lo,h,h'=>by
  have h:∀j,lo<=j->tb m j=false:=h
  have:=h'.2.2.2.1 s (aO _) h'.2.2.1
  rw[h s h'.1] at this;cases this
 |(s,e)::r,[],lo,h,h'=>by
  have h':∀j,lo<=j->tb m j=false:=h'
  have:=h.2.2.2.1 s (aO _) h.2.2.1
  rw[h' s h.1] at this;cases this
 |(s,e)::r,(s',e')::r',lo,h,h'=>by
  obtain⟨a1,a2,a3,a4,a5,a6⟩:=h
  obtain⟨b1,b2,b3,b4,b5,b6⟩:=h'
  have es:s=s':=by
   rcases Nat.lt_trichotomy s s' with z | z | z
   ·have:=b2 s a1 z;rw[a4 s (aO _) a3] at this;cases this
   ·exact z
   ·have:=a2 s' b1 z;rw[b4 s' (aO _) b3] at this;cases this
  subst es
  have ee:e=e':=by
   rcases Nat.lt_trichotomy e e' with z | z | z
   ·have:=b4 (e+1) (by omega) (by omega);rw[a5] at this;cases this
   ·exact z
   ·have:=a4 (e'+1) (by omega) (by omega);rw[b5] at this;cases this
  subst ee
  rw[aiH a6 b6]
theorem azY{m:Int}(h:m<2^64):∀(n s:Nat),64-s<=n->∃e,anZ m s e
 |0,s,hn=>⟨s,aO _,fun j h1 h2=>absurd h1 (by omega),abJ h (by omega)⟩
 |n+1,s,hn=>by
  cases c:tb m (s+1) with
  |false=>exact⟨s,aO _,fun j h1 h2=>absurd h1 (by omega),c⟩
  |true=>
   obtain⟨e,h1,h2,h3⟩:=azY h n (s+1) (by omega)
   refine⟨e,by omega,fun j j1 j2=>?_,h3⟩
   by_cases q:j=s+1
   ·rw[q];exact c
   ·exact h2 j (by omega) j2
theorem acB{m:Int}(h:m<2^64):∀(n lo:Nat),66-lo<=n->∃prs,aeJ m lo prs
 |0,lo,hn=>⟨[],fun j hj=>abJ h (by omega)⟩
 |n+1,lo,hn=>by
  by_cases c:∃j,lo<=j/\tb m j=true
  ·obtain⟨s,h1,h2,h3⟩:∃s,lo<=s/\tb m s=true/\∀j,lo<=j->j<s->tb m j=false:=by
    obtain⟨j,j1,j2⟩:=c
    induction j using Nat.strongRecOn with
    |_ j ih=>
     by_cases q:∃k,lo<=k/\k<j/\tb m k=true
     ·obtain⟨k,k1,k2,k3⟩:=q
      exact ih k k2 k1 k3
     ·refine⟨j,j1,j2,fun k k1 k2=>?_⟩
      cases e:tb m k
      ·rfl
      ·exact absurd ⟨k,k1,k2,e⟩ q
   obtain⟨e,e1,e2,e3⟩:=azY h 64 s (by omega)
   obtain⟨r,hr⟩:=acB h n (e+2) (by omega)
   refine⟨(s,e)::r,h1,h3,e1,fun j j1 j2=>?_,e3,hr⟩
   by_cases q:j=s
   ·rw[q];exact h2
   ·exact e2 j (by omega) j2
  ·refine⟨[],fun j hj=>?_⟩
   cases e:tb m j
   ·rfl
   ·exact absurd ⟨j,hj,e⟩ c
theorem adK{m:Int}:∀{prs:List (Nat×Nat)} {lo:Nat},aeJ m lo prs->∀j,lo<=j->tb m j=prs.any fun x=>decide (x.1<=j)&&decide (j<=x.2)
 |[],_,h,j,hj=>h j hj
 |(s,e)::r,lo,⟨a1,a2,a3,a4,a5,a6⟩,j,hj=>by
  rw[bW]
  by_cases c1:j<s
  ·rw[a2 j hj c1,dY (show ¬s<=j by omega)]
   have:(r.any fun x=>decide (x.1<=j)&&decide (j<=x.2))=false:=by
    rw[cJ]
    intro x hx
    have:=runs_lo a6 x hx
    simp;omega
   rw[this];rfl
  ·by_cases c2:j<=e
   ·rw[a4 j (by omega) c2,dU (show s<=j by omega),dU c2];rfl
   ·rw[dY c2,Bool.and_false,Bool.false_or]
    by_cases c3:j=e+1
    ·subst c3
     rw[a5]
     symm
     rw[cJ]
     intro x hx
     have:=runs_lo a6 x hx
     simp;omega
    ·exact adK a6 j (by omega)
where runs_lo {m:Int}:∀{prs:List (Nat×Nat)} {lo:Nat},aeJ m lo prs->∀x∈prs,lo<=x.1
 |[],_,_,x,hx=>nomatch hx
 |(s,e)::r,lo,hr,x,hx=>by
  rcases aR.mp hx with z | z
  ·subst z;exact hr.1
  ·have:=runs_lo hr.2.2.2.2.2 x z
   have h1:=hr.1
   have h2:=hr.2.2.1
   omega
noncomputable def rt(x:Nat×Nat):List Nat:=if x.1=x.2 then num x.1 else num x.1++45::num x.2
theorem auB{x:Nat×Nat}(h1:x.1<=63)(h2:x.2<=63):(rt x).length<=5:=by
 have a:=(abK x.1 (by omega)).2.2.2
 have b:=(abK x.2 (by omega)).2.2.2
 unfold rt
 split
 ·omega
 ·rw[aP,bF];omega
noncomputable abbrev rtx(prs:List (Nat×Nat)):List Nat:=aaK 44 (prs.map rt)
theorem awM:∀l:List Nat,(∀n∈l,n<=5)->l.sum<=5*l.length
 |[],_=>by simp
 |a::r,h=>by
  have:=awM r fun n hn=>h n (by simp[hn])
  have:=h a (by simp)
  rw[List.sum_cons,bF]
  omega
theorem ak9{m:Int}(h:m<2^64){prs:List (Nat×Nat)}(hr:aeJ m 0 prs):(rtx prs).length<=200:=by
 have h1:=ahL h hr (by omega)
 have h2:=ah0 44 (prs.map rt)
 have h3:=awM ((prs.map rt).map (·.length)) fun n hn=>by
  obtain⟨w,hw,rfl⟩:=a9.mp hn
  obtain⟨x,hx,rfl⟩:=a9.mp hw
  have:=ad4 h hr x hx
  exact auB (by omega) (by omega)
 rw[aM,aM] at h3
 rw[aM] at h2
 show (aaK 44 (prs.map rt)).length<=200
 split at h2<;>omega
noncomputable def rtm(m:Int):List Nat:=if h:m<2^64 then rtx (Classical.choose (acB h 66 0 (by omega))) else []
theorem adX{m:Int}(h:m<2^64){prs:List (Nat×Nat)}(hr:aeJ m 0 prs):rtm m=rtx prs:=by
 unfold rtm
 rw[dif_pos h,aiH (Classical.choose_spec (acB h 66 0 (by omega))) hr]
noncomputable def abO:Mk->List Nat
 |.num m=>rtm m
 |.wkd m=>rtm m
 |.lst b=>if b=0 then [76] else [76,45]++num b.toNat
 |.nea d=>num d.toNat++[87]
 |.wrk=>[76,87]
 |.nth w m=>num w.toNat++[35]++num m.toNat
 |.one w=>num w.toNat++[76]
 |.nil=>[]
noncomputable def Mk.bt:Mk->Prop
 |.num m=>0<m/\∀i,tb m i=true->1<=i/\i<=31
 |.wkd m=>0<m
 |_=>True
theorem as3{x:Int}(h0:0<=x){n:Nat}(h:∀i,tb x i=true->i<n):x<2^n:=by
 have e:mk_ (tb x) n=x:=aa0 (axB _ _) h0 fun i=>by
  rw[awW]
  cases c:tb x i
  ·simp
  ·simp[h i c]
 rw[←e]
 exact azI _ _
theorem aPN:(2:Int)^7=128:=by decide
theorem aFA{m:Int}(h0:0<=m)(h1:m<=127):∀i,tb m i=true->i<7:=fun i hi=>by
 rcases cA i 7 with z | z
 ·exact z
 ·rw[abJ (n:=7) (by rw[aPN];omega) z] at hi
  exact absurd hi aW
theorem aEC{k:Nat}{x:Int}(h0:0<=x)(hk:k<=64)(h:∀i,tb x i=true->i<k):x<2^64:=as3 h0 fun i hi=>aX (h i hi) hk
theorem al8{m:Int}(h0:0<=m)(h:∀i,tb m i=true->1<=i/\i<=31):m<2^64:=aEC (k:=32) h0 (by decide) fun i hi=>by have:=h i hi;omega
theorem alN{m:Int}(h0:0<=m)(h1:m<=127):m<2^64:=aEC (k:=7) h0 (by decide) (aFA h0 h1)
noncomputable def plm(b:Bool)(x:Nat×Nat):Mk:=if b=true then .wkd (wk7 (abV x.1 x.2 1)) else .num (abV x.1 x.2 1)
theorem aD0{lo hi:Int}{x:Nat×Nat}(h0:0<=lo)(h1:lo<=x.1)(h2:x.1<=x.2)(h3:(x.2:Int)<=hi)(h4:hi<=63):acP lo hi (rt x) (ab4 x.1 x.2 1):=by
 unfold rt
 by_cases c:x.1=x.2
 ·rw[if_pos c,←c,av7]
  exact i1 (a:=(x.1:Int)) h0 h1 (by omega) h4
 ·rw[if_neg c]
  exact i2 (a:=(x.1:Int)) (b:=(x.2:Int)) h0 h1 (by omega) h3 h4
theorem aET{b:Bool}{x:Nat×Nat}(h1:lo_ b<=x.1)(h2:x.1<=x.2)(h3:(x.2:Int)<=hi_ b):Cl (rt x)/\SpT b (rt x) (plm b x):=by
 cases b with
 |true=>
  have t:=aD0 (lo:=0) (hi:=7) (x:=x) (by decide) h1 h2 h3 (by decide)
  have hin:=t.2.2.1
  have hlt:=ahY (n:=8) (ns:=ab4 x.1 x.2 1) (fun z hz=>by have:=hin z hz;omega)
  have e256:(2:Int)^8=256:=by decide
  exact⟨t.2.1,rfl,_,t.1,⟨acV t.2.2.2.1 (fun n hn=>(hin n hn).1),by omega⟩,rfl⟩
 |false=>
  have t:=aD0 (lo:=1) (hi:=31) (x:=x) (by decide) h1 h2 h3 (by decide)
  exact⟨t.2.1,rfl,t.1,acV t.2.2.2.1 (fun n hn=>by have:=(t.2.2.1 n hn).1;omega)⟩
theorem aBW{b:Bool}{k:Mk}(hp:k.pl=none)(hs:k.sp=true)(hw:k.wk=b)(ho:k.ok):Cl (abO k)/\SpT b (abO k) k:=by
 cases k with
 |num m=>cases hp
 |wkd m=>cases hp
 |nil=>cases hs
 |wrk=>subst hw;exact⟨arN.2,arN.1⟩
 |lst n=>
  subst hw
  by_cases c:n=0
  ·subst c;exact⟨ap2.2,ap2.1⟩
  ·have z:=avC n.toNat (by have:=ho.2;omega) (by have:=ho.1;omega)
   rw[bA ho.1] at z
   have e:abO (.lst n)=[76,45]++num n.toNat:=by show (if n=0 then _ else _)=_;rw[if_neg c]
   rw[e]
   exact⟨z.2,z.1⟩
 |nea d=>
  subst hw
  have z:=au7 d.toNat (by have:=ho.2;omega) (by have:=ho.1;omega)
  rw[bA (by have:=ho.1;omega)] at z
  exact⟨z.2,z.1⟩
 |nth w m=>
  subst hw
  have h1:=ho.1.1
  have h2:=ho.1.2
  have h3:=ho.2.1
  have h4:=ho.2.2
  have z:=aDK w.toNat (by omega) m.toNat (by omega) (by omega)
  rw[bA h1,bA (by omega),Int.emod_eq_of_lt h1 (by omega)] at z
  exact⟨z.2,z.1⟩
 |one w=>
  subst hw
  have h1:=ho.1
  have h2:=ho.2
  have z:=aDS w.toNat (by omega)
  rw[bA h1,Int.emod_eq_of_lt h1 (by omega)] at z
  exact⟨z.2,z.1⟩
theorem aA5{b:Bool}:∀{ws:List (List Nat)} {ks:List Mk} {vs:List (List Nat)} {js:List Mk},Ws b ws ks->Ws b vs js->Ws b (ws++vs) (ks++js)
 |_,_,_,_,.nil,h=>h
 |_,_,_,_,.cons r t,h=>.cons r (aA5 t h)
theorem at0{b:Bool}{α:Type}{f:α->List Nat}{g:α->Mk}:∀{l:List α},(∀x∈l,Cl (f x)/\SpT b (f x) (g x))->Ws b (l.map f) (l.map g)
 |[],_=>.nil
 |x::l,h=>.cons (h x (bB ..)) (at0 fun y hy=>h y (bD _ hy))
theorem aBY{c:Nat}{a b:List (List Nat)}(ha:a≠[]):aaK c (aaK c a::b)=aaK c (a++b):=by
 cases b with
 |nil=>rw[bS];rfl
 |cons x r=>rw[an3 c a (x::r) ha (dD _ _)];rfl
theorem aEM{prs:List (Nat×Nat)}(h:aeJ 0 0 prs):prs=[]:=by
 cases prs with
 |nil=>rfl
 |cons x r=>
  obtain⟨s,e⟩:=x
  have:=h.2.2.2.1 s (aO _) h.2.2.1
  rw[abL] at this
  cases this
theorem aED{b:Bool}{x:Nat×Nat}:(plm b x).pl=some (if b=true then wk7 (abV x.1 x.2 1) else abV x.1 x.2 1):=by
 unfold plm
 cases b<;>rfl
theorem akY{os:List Mk}(h:∀k∈os,k.pl=none):otK os=os/\plK os=[]:=by
 constructor
 ·exact List.filter_eq_self.mpr fun k hk=>by rw[h k hk];rfl
 ·exact List.filterMap_eq_nil_iff.mpr fun k hk=>h k hk
theorem ah9(a b:List Mk):plK (a++b)=plK a++plK b/\otK (a++b)=otK a++otK b:=⟨cT,dH ..⟩
theorem aq4{b:Bool}:∀(prs:List (Nat×Nat)),plK (prs.map (plm b))=prs.map (fun x=>if b=true then wk7 (abV x.1 x.2 1) else abV x.1 x.2 1)/\otK (prs.map (plm b))=[]
 |[]=>⟨rfl,rfl⟩
 |x::r=>by
  have ih:=aq4 (b:=b) r
  have c:=ak6 (plm b x) (r.map (plm b))
  rw[aED] at c
  rw[bR,c.1,c.2,ih.1,ih.2]
  exact⟨rfl,rfl⟩
theorem apV{M:Int}(h0:0<=M){prs:List (Nat×Nat)}(hr:aeJ M 0 prs):orM (prs.map fun x=>abV x.1 x.2 1)=M:=by
 have hn:∀m∈prs.map (fun x:Nat×Nat=>abV x.1 x.2 1),0<=m:=fun m hm=>by
  obtain⟨x,_,rfl⟩:=a9.mp hm
  exact aaS _
 refine aa0 (abQ hn) h0 fun i=>?_
 rw[abU hn,adK hr i (aZ _),cN]
 congr 1
 funext x
 show tb (aa3 _) i=_
 rw[aa2,b7,bY]
 simp only[bE,dX]
 constructor
 ·rintro⟨z,hz,e⟩
  have:=(ahA (by decide)).mp hz
  omega
 ·rintro⟨h1,h2⟩
  exact⟨i,(ahA (by decide)).mpr ⟨by omega,by omega,by omega⟩,by omega⟩
theorem aF1{m:Int}(h0:0<=m)(h1:m<=127):wk7 m=m:=by
 refine aa0 (ac1 h0 0).1 h0 fun i=>?_
 have hz:∀j,7<=j->tb m j=false:=fun j hj=>abJ (n:=7) (by rw[aPN];omega) hj
 rw[(ac1 h0 i).2,hz (7+i) (by omega),Bool.or_false]
 rcases cA i 7 with c | c
 ·rw[dU c,Bool.and_true]
 ·rw[hz i c];rfl
noncomputable def Dd(b:Bool)(m l f:Int):Int:=if b=true then wkD m l f else anT m l
theorem awK{m f:Int}(h:0<=m)(n:Nat):apO m f n=tb m ((f+(1+(n:Int))-1)%7).toNat:=by
 unfold apO
 by_cases c:tb m ((f+(1+(n:Int))-1)%7).toNat=true
 ·rw[c];exact dU ((acT h _).mpr c)
 ·have c':tb m ((f+(1+(n:Int))-1)%7).toNat=false:=by simpa using c
  rw[c'];exact dY fun q=>c ((acT h _).mp q)
theorem wkN_mem{m f z:Int}:∀{n:Nat},z∈wkN m f n↔∃j,j<n/\apO m f j=true/\z=1+(j:Int)
 |0=>⟨fun h=>(nomatch h),fun ⟨j,h,_⟩=>absurd h (Nat.not_lt_zero j)⟩
 |n+1=>by
  show z∈wkN m f n++(if apO m f n=true then [1+(n:Int)] else [])↔_
  rw[bK,wkN_mem]
  constructor
  ·rintro (⟨j,h1,h2,h3⟩ | h)
   ·exact⟨j,cH h1,h2,h3⟩
   ·split at h
    ·rename_i c
     exact⟨n,cR n,c,bG.mp h⟩
    ·cases h
  ·rintro⟨j,h1,h2,h3⟩
   by_cases c:j=n
   ·subst c
    rw[if_pos h2]
    exact .inr (bG.mpr h3)
   ·exact .inl ⟨j,by omega,h2,h3⟩
theorem aAW{m l f:Int}(h0:0<=m)(h1:m<=127)(h:Lf l f)(i:Nat):tb (wkD m l f) i=(decide (1<=i)&&(decide ((i:Int)<=l)&&tb m ((f+(i:Int)-1)%7).toNat)):=by
 have hw:=aq6 m (aAF h0 h1) l (axO h.1.1 h.1.2) f (alY h.2.1 h.2.2)
 obtain⟨_,hp,hn⟩:=apF hw.2
 rw[hw.1,(azP hp (fun z hz=>(hn z hz).1) i).2,b7,bY]
 simp only[bE,dX]
 have hl:=h.1.1
 constructor
 ·rintro⟨z,hz,e⟩
  obtain⟨j,j1,j2,j3⟩:=wkN_mem.mp hz
  rw[awK h0] at j2
  have:i=1+j:=by omega
  subst this
  exact⟨by omega,by omega,j2⟩
 ·rintro⟨i1,i2,i3⟩
  refine⟨(i:Int),wkN_mem.mpr ⟨i-1,by omega,?_,by omega⟩,by omega⟩
  rw[awK h0,show (1+((i-1:Nat):Int))=(i:Int) by omega]
  exact i3
theorem aw6{m l:Int}(h0:0<=m)(hl:28<=l/\l<=31)(i:Nat):tb (anT m l) i=(tb m i&&tb (2*2^l.toNat-2) i):=by
 have hp:=acF l.toNat
 exact amZ h0 (by omega) i
theorem apM{α:Type}(l:List α)(p:α->Bool)(c:Bool):(l.any fun x=>c&&p x)=(c&&l.any p):=by
 induction l with
 |nil=>rw[List.any_nil,List.any_nil,Bool.and_false]
 |cons x r ih=>rw[bW,bW,ih,Bool.and_or_distrib_left]
theorem adN{α:Type}{p q:α->Bool}:∀{l:List α},(∀x∈l,p x=q x)->l.any p=l.any q
 |[],_=>rfl
 |x::r,h=>by rw[bW,bW,h x (bB ..),adN fun y hy=>h y (bD _ hy)]
theorem aDC{b:Bool}{ms:List Int}{l f:Int}(hm:∀m∈ms,0<=m/\(b=true->m<=127))(h:Lf l f)(i:Nat):tb (Dd b (orM ms) l f) i=ms.any fun m=>tb (Dd b m l f) i:=by
 have h0:∀m∈ms,0<=m:=fun m hz=>(hm m hz).1
 cases b with
 |false=>
  show tb (anT (orM ms) l) i=ms.any fun m=>tb (anT m l) i
  rw[aw6 (abQ h0) h.1,abU h0,Bool.and_comm,←apM]
  exact adN fun m hz=>by rw[aw6 (h0 m hz) h.1,Bool.and_comm]
 |true=>
  have e:(2:Int)^7=128:=by decide
  have hM:orM ms<=127:=by
   have:=auL (n:=7) (ms:=ms) fun m hz=>⟨h0 m hz,by have:=(hm m hz).2 rfl;omega⟩
   omega
  show tb (wkD (orM ms) l f) i=ms.any fun m=>tb (wkD m l f) i
  rw[aAW (abQ h0) hM h,abU h0,←apM,←apM]
  exact adN fun m hz=>by rw[aAW (h0 m hz) ((hm m hz).2 rfl) h]
theorem aFI{b:Bool}{k:Mk}{m:Int}(hp:k.pl=some m)(hw:k.wk=b)(l f:Int):k.due l f=Dd b m l f:=by
 cases k with
 |num z=>cases hp;cases hw;rfl
 |wkd z=>cases hp;cases hw;rfl
 |lst z=>cases hp
 |nea z=>cases hp
 |wrk=>cases hp
 |nth z y=>cases hp
 |one z=>cases hp
 |nil=>cases hp
theorem an5{b:Bool}(l f:Int)(i:Nat):∀{ks:List Mk},(∀k∈ks,k.wk=b)->(ks.any fun k=>tb (k.due l f) i)=((plK ks).any (fun m=>tb (Dd b m l f) i)||(otK ks).any fun k=>tb (k.due l f) i)
 |[],_=>rfl
 |k::ks,h=>by
  have ih:=an5 l f i (ks:=ks) fun z hz=>h z (bD _ hz)
  have c:=ak6 k ks
  have hk:=h k (bB ..)
  rw[bW,ih]
  cases e:k.pl with
  |some m=>
   rw[e] at c
   rw[c.1,c.2,bW,aFI e hk,Bool.or_assoc]
  |none=>
   rw[e] at c
   rw[c.1,c.2,bW]
   cases tb (k.due l f) i<;>cases (plK ks).any _<;>rfl
theorem aeZ{b:Bool}{ks:List Mk}(h:∀k∈ks,k.sp=true/\k.wk=b/\k.ok):∀k∈abN b ks,k.sp=true/\k.wk=b/\k.ok:=fun k hk=>by
 rcases bK.mp hk with z | z
 ·exact avZ h k z
 ·exact h k ((cU.mp z).1)
theorem azL{b:Bool}{ks:List Mk}{l f:Int}(h:∀k∈ks,k.sp=true/\k.wk=b/\k.ok)(hlf:Lf l f):orK (abN b ks) l f=orK ks l f:=by
 refine aFW hlf (fun k hk=>(aeZ h k hk).2.2) (fun k hk=>(h k hk).2.2) fun i=>?_
 have hp:=arU h
 rw[an5 l f i fun k hk=>(h k hk).2.1,←aDC hp hlf i]
 unfold abN
 rw[List.any_append]
 congr 1
 unfold abM
 by_cases c:orM (plK ks)=0
 ·rw[if_pos c,c]
  have:=aDC (b:=b) (ms:=[]) (fun m hm=>nomatch hm) hlf i
  rw[show orM []=0 from rfl] at this
  rw[this]
  rfl
 ·rw[if_neg c]
  cases b with
  |true=>show (tb (wkD _ l f) i||false)=_;rw[Bool.or_false];rfl
  |false=>show (tb (anT _ l) i||false)=_;rw[Bool.or_false];rfl
theorem aDA{b:Bool}{ks:List Mk}(h:∀k∈ks,k.sp=true/\k.wk=b/\k.ok)(hb:∀k∈ks,k.bt):0<=orM (plK ks)/\(if b=true then orM (plK ks)<=127 else ∀i,tb (orM (plK ks)) i=true->1<=i/\i<=31):=by
 have hp:=arU h
 have h0:∀m∈plK ks,0<=m:=fun m hm=>(hp m hm).1
 refine⟨abQ h0,?_⟩
 cases b with
 |true=>
  have e:(2:Int)^7=128:=by decide
  have:=auL (n:=7) (ms:=plK ks) fun m hz=>⟨h0 m hz,by have:=(hp m hz).2 rfl;omega⟩
  show orM (plK ks)<=127
  omega
 |false=>
  intro i hi
  rw[abU h0,bY] at hi
  obtain⟨m,hm,e⟩:=hi
  obtain⟨k,hk,ek⟩:=dE.mp hm
  have:=h k hk
  cases k with
  |num z=>cases ek;exact (hb _ hk).2 i e
  |wkd z=>cases this.2.1
  |lst z=>cases ek
  |nea z=>cases ek
  |wrk=>cases ek
  |nth z y=>cases ek
  |one z=>cases ek
  |nil=>cases ek
theorem apY{b:Bool}{ks:List Mk}(h:∀k∈ks,k.sp=true/\k.wk=b/\k.ok)(hb:∀k∈ks,k.bt):∀k∈abN b ks,k.bt:=fun k hk=>by
 rcases bK.mp hk with z | z
 ·have hz:=aDA h hb
  unfold abM at z
  split at z
  ·cases z
  ·rename_i c
   split at z
   ·rw[bG.mp z]
    show 0<orM (plK ks)
    omega
   ·rename_i cb
    rw[bG.mp z]
    have hz2:=hz.2
    rw[if_neg cb] at hz2
    exact⟨by omega,hz2⟩
 ·exact hb k ((cU.mp z).1)
theorem aw9{b:Bool}{ks:List Mk}(h:∀k∈ks,k.sp=true/\k.wk=b/\k.ok)(hb:∀k∈ks,k.bt)(hn:ks≠[]):orM (plK ks)≠0∨otK ks≠[]:=by
 cases ks with
 |nil=>exact absurd rfl hn
 |cons k r=>
  have c:=ak6 k r
  cases e:k.pl with
  |none=>
   rw[e] at c
   refine .inr ?_
   rw[c.2]
   exact dD _ _
  |some m=>
   refine .inl fun z=>?_
   have hp:=arU h
   have:=(alH fun m hm=>(hp m hm).1).mp z m (by rw[e] at c;rw[c.1];exact bB ..)
   have hk:=hb k (bB ..)
   cases k with
   |num y=>cases e;have:=hk.1;omega
   |wkd y=>cases e;have:0<m:=hk;omega
   |lst y=>cases e
   |nea y=>cases e
   |wrk=>cases e
   |nth y x=>cases e
   |one y=>cases e
   |nil=>cases e
theorem axJ{k:Mk}(hp:k.pl=none)(h:k.ok):42∉abO k:=by
 have n:∀z:Int,0<=z->z<=99->42∉num z.toNat:=fun z h0 h1=>aaU (by omega) (by decide)
 cases k with
 |num m=>cases hp
 |wkd m=>cases hp
 |nil=>exact cB
 |wrk=>decide
 |lst b=>
  show 42∉(if b=0 then [76] else [76,45]++num b.toNat)
  split
  ·decide
  ·rw[bK,not_or]
   exact⟨by decide,n b h.1 (by have:=h.2;omega)⟩
 |nea d=>
  show 42∉num d.toNat++[87]
  rw[bK,not_or]
  exact⟨n d (by have:=h.1;omega) (by have:=h.2;omega),by decide⟩
 |nth w m=>
  show 42∉num w.toNat++[35]++num m.toNat
  rw[bK,bK,not_or,not_or]
  exact⟨⟨n w h.1.1 (by have:=h.1.2;omega),by decide⟩,n m (by have:=h.2.1;omega) (by have:=h.2.2;omega)⟩
 |one w=>
  show 42∉num w.toNat++[76]
  rw[bK,not_or]
  exact⟨n w h.1 (by have:=h.2;omega),by decide⟩
theorem aBS{x:Nat×Nat}(h1:x.1<=63)(h2:x.2<=63):42∉rt x:=by
 unfold rt
 split
 ·exact aaU (by omega) (by decide)
 ·exact ac6 (aaU (by omega) (by decide)) (aaU (by omega) (by decide)) (by decide)
end KM
namespace L2
open PySem PySem.Spec PyProof.Rows
section
variable{X:Cx}{f:Addr}{k k':Nat}{ps:List Str}{sp:Sp}{x y e:Expr}{es:List Expr}{t:TA}{tv:TE}{p pos:Pos}
end
section
variable{X:Cx}{C:Addr}{m:Str}{k k':Nat}{ps:List Str}{sp:Sp}{o:Expr}{ta:TE}{apos pos:Pos}
theorem anC{pl:Sem Bool}(c:Cls X.K C)(D:DfM X.prog X.w X.K X.mg X.base C m k ps sp)(hr:Room k' X.A)(ho:E X o ta)(hk:k<=k':=by decide)
  (ht:eval (.Call (.Attribute o m apos) [] [] pos) X.env=(do
   let ov ←eval o X.env
   standAt apos.atName
   let (f,first) ←holding [ov] (getMethod ov m pl)
   callWith pos f first (backTo pos (starEach [] X.env)) (backToKw pos (keywordEach [] X.env))):=by rfl):E X (.Call (.Attribute o m apos) [] [] pos) (aw7 C m sp [] E0 ta aiE):=by
 obtain⟨f,fd,F,hb,hm⟩:=D.ex
 exact⟨ay1 ho.h c hm F (hr.mono hk) hb .nil aoP ht⟩
end
section
variable{X:Cx}{body:List Stmt}{tb:TS}{h:ExceptHandler}{hs:List ExceptHandler}{pos:Pos}
theorem aMU(hb:Ss X.nox body tb):S X (.Try body (h::hs) [] [] pos) tb:=by
 refine⟨fun pins s σ H D I hw=>?_⟩
 refine wpAny_Try_except (dO (hb.h pins s σ H D (I.wish _) hw) (fun f s1 q=>?_) fun e s1 hx=>False.elim hx)
 cases f with
 |next=>exact wpAny_execs_nil q.unwish
 |ret v=>exact q.unwish
 |brk=>exact q.unwish
 |cont=>exact q.unwish
end
section
variable{js:List Nat}{σ:St}{tt:TT}{te:TE}{Q:VK}{H1:Hp}
theorem auV{K K':FG}{a:Addr}{xs:List V}(R:Addr->Nat->List V->Hp->Prop)(hm:∀D i l H l',R D i l H->R D i l (upd H D (.lst l')))(hS:∀D i l H H',Same H H'->R D i l H->R D i l H')(hn:xs.length<=sizeLine)(h0:∀D,H1 D=none->R D 0 [] H1)(hq:SqL K H1 a xs)
  (hs:∀(i:Nat) (x:V) (l:List V) (D:Addr) (H2:Hp) (E:V->Hp->Prop) (F:Hp->Prop),xs[i]? =some x->R D i l H2->H1 D=none->Same H1 H2->H2 D=some (.lst l)->(∀y H5,Same H2 H5->R D (i+1) (l++[y]) H5->E y H5)->(∀H4,Same H2 H4->R D (i+1) l H4->F H4)->
   tt (some (.int i)::some x::aaW js σ) H2 fun b H4=>if b=true then te (some (.int i)::some x::aaW js σ) H4 E else F H4)
  (hd:∀(D:Addr) (H2:Hp) (l:List V),R D xs.length l H2->H1 D=none->Same H1 H2->H2 D=some (.lst l)->Q (.ref D) H2):
  au2 (Ite K a) 2 js (azG K' 2 (aoH (acO 0) (aoH (acO 1) aBM))) σ tt te Q H1:=by
 intro D hD
 refine⟨fun i m H2=>m=xs.length-i/\i<=xs.length/\Same H1 H2/\∃l,H2 D=some (.lst l)/\l.length<=i/\R D i l H2,⟨xs.length,by simp,aZ _,aaB hD _,[],aaA,aO _,hm _ _ _ _ _ (h0 D hD)⟩,?_⟩
 rintro i m H2 ⟨rfl,hi,s2,l,h2,hll,hR⟩
 by_cases hlt:i<xs.length
 ·refine .inr ⟨⟨xs,xs[i],s2.seq hq,by simp[hlt]⟩,fun v H3 y τ hτ=>?_⟩
  obtain⟨T,rfl,hT,ev⟩:=y
  obtain⟨x,hx,rfl⟩:=ev xs (s2.seq hq)
  have sT:=aaB hT (.tup [.int i,x])
  have s3:=s2.trans sT
  have h3:=sT _ _ h2
  obtain⟨t0,t1,rfl⟩:∃t0 t1,τ=[t0,t1]:=by
   match τ,hτ with
   |[a,b],_=>exact⟨a,b,rfl⟩
  have h:=hs i x l D _ (fun y H5=>∃ys,H5 D=some (.lst ys)/\ys.length<sizeLine/\∃m',m'<xs.length-i/\(m'=xs.length-(i+1)/\i+1<=xs.length/\Same H1 (upd H5 D (.lst (ys++[y])))/\∃l,(upd H5 D (.lst (ys++[y]))) D=some (.lst l)/\l.length<=i+1/\R D (i+1) l (upd H5 D (.lst (ys++[y]))))) (fun H4=>∃m',m'<xs.length-i/\(m'=xs.length-(i+1)/\i+1<=xs.length/\Same H1 H4/\∃l,H4 D=some (.lst l)/\l.length<=i+1/\R D (i+1) l H4)) hx (hS _ _ _ _ _ sT hR) hD s3 h3
   (fun z H5 s5 r5=>by
    refine⟨l,s5 _ _ h3,dA hll (aX hlt hn),xs.length-(i+1),by omega,rfl,hlt,fun b o hb=>?_,l++[z],aaA,by rw[aP,bL];omega,hm _ _ _ _ _ r5⟩
    rw[aaH (aaL hb hD)]
    exact s5 _ _ (s3 _ _ hb))
   (fun H4 s4 r4=>⟨xs.length-(i+1),by omega,rfl,hlt,s3.trans s4,l,s4 _ _ h3,by omega,r4⟩)
  exact⟨T,[.int i,x],rfl,SqT.of aaA,rfl,.int i,[x],rfl,x,[],rfl,rfl,⟨[some (.int i),some x],rfl,rfl⟩,h⟩
 ·have e:i=xs.length:=by omega
  subst e
  exact .inl ⟨⟨xs,s2.seq hq,rfl⟩,hd D H2 l hR hD s2 h2⟩
end
theorem aGF{X:Cx}:Cl1 X (.builtin "divmod") (fun xs H Q=>∃i j,xs=[.int i,.int j]/\aCL i j/\∀p,H p=none->Q (.ref p) (upd H p (.tup [.int (i / j),.int (i%j)]))):=⟨as2⟩
noncomputable def KD(K:FG)(a:Addr)(kvs:List (Int×V)):Prop:=
 ∃(es:Array DictEntry) (ep:Nat) (vs:List (Key×Value)),K.lookup a=some ⟨.type "dict",none,.dict es ep,#[]⟩/\KV (kvs.map fun x=>((Sum.inl x.1:Key),x.2)) vs/\(vs.map (·.1)).Nodup/\∀(P:Program) (w:World),KeysOf (acS P w) es/\PySem.Pairs (acS P w) es.toList vs
noncomputable def aF5(K:FG)(td ty:TE):TE:=fun σ H Q=>td σ H fun x H1=>ty σ H1 fun y H2=>∃a kvs k v,x=.ref a/\KD K a kvs/\y=.int k/\kvs.lookup k=some v/\Q v H2
theorem aC9{k:Int}{v:V}:∀{kvs:List (Int×V)} {vs:List (Key×Value)},KV (kvs.map fun x=>((Sum.inl x.1:Key),x.2)) vs->kvs.lookup k=some v->∃w',valueAt vs (Sum.inl k:Key)=some w'/\RelV v w'
 |[],_,_,h=>by cases h
 |(k0,v0)::r,_,.cons (b:=(k1,w1)) h t,hl=>by
  obtain⟨e1,e2⟩:=h
  have e1:(Sum.inl k0:Key)=k1:=e1
  subst e1
  rw[c9] at hl
  unfold valueAt
  by_cases c:k=k0
  ·subst c
   rw[show (k==k)=true from beq_self_eq_true k] at hl
   cases hl
   refine⟨w1,?_,e2⟩
   rw[List.find?_cons_of_pos (by simp)]
   rfl
  ·rw[show (k==k0)=false from beq_false_of_ne c] at hl
   obtain⟨w',h1,h2⟩:=aC9 t hl
   refine⟨w',?_,h2⟩
   rw[List.find?_cons_of_neg (by simp;exact fun z=>c z.symm)]
   exact h1
section
variable{X:Cx}{o i:Expr}{td ty:TE}{pos:Pos}
theorem aHD(ho:E X o td)(hi:E X i ty)(hs:aPS i:=by intro _ _;rfl):E X (.Subscript o i pos) (aF5 X.K td ty):=by
 refine⟨fun pins s σ H Q I h=>?_⟩
 refine aC0 PySem.F.slot_dict_getitem.lookup hs (thn (ho.h pins s σ H _ I h) fun u s1 ⟨x,H1,I1,rx,q1⟩=>thn (hi.h pins s1 σ H1 _ I1 q1) fun iv s2 ⟨y,H2,I2,ry,a,kvs,k,v,ex,hk,ey,l,q2⟩=>?_)
 subst ex
 subst ey
 obtain rfl:u=Value.ref a:=rx
 obtain⟨es,ep,vs,lk,kv,nd,kp⟩:=hk
 obtain⟨k1,k2⟩:=kp X.prog X.w
 have dd:s2.heap.DictOf (acS X.prog X.w) a vs:=⟨_,es,ep,I2.kIn _ _ lk,⟨rfl,rfl,rfl⟩,rfl,k1,k2,nd⟩
 obtain⟨w',hw,rw'⟩:=aC9 kv l
 exact⟨dd.typeIs,wpAny_getItem_of (aDW (k:=Sum.inl k) ry) dd.mapOf hw ⟨v,H2,I2.tok _,rw',q2⟩⟩
end
end L2
namespace KM
open PySem PySem.Spec PyProof.Rows L2
theorem aGG{a:Int}(h:0<=a):Builtin.bitOr a 0=a:=by
 refine aa0 (adD h (aU 0)) h fun i=>?_
 rw[ahE h (aU 0),abL,Bool.or_false]
theorem axS{a b c:Int}(ha:0<=a)(hb:0<=b)(hc:0<=c):Builtin.bitOr (Builtin.bitOr a b) c=Builtin.bitOr a (Builtin.bitOr b c):=by
 refine aa0 (adD (adD ha hb) hc) (adD ha (adD hb hc)) fun i=>?_
 rw[ahE (adD ha hb) hc,ahE ha hb,ahE ha (adD hb hc),ahE hb hc,Bool.or_assoc]
theorem azC{ks:List Mk}{l f:Int}(h:Lf l f)(o:∀k∈ks,k.ok):0<=orK ks l f:=abQ fun m hm=>by
 obtain⟨k,hk,rfl⟩:=a9.mp hm
 exact au0 (o k hk) h
theorem asB{ks:List Mk}{i:Nat}{k:Mk}{a l f:Int}(h:Lf l f)(o:∀k∈ks,k.ok)(ek:ks[i]? =some k)(ha:0<=a):Builtin.bitOr (Builtin.bitOr a (orK (ks.take i) l f)) (k.due l f)=Builtin.bitOr a (orK (ks.take (i+1)) l f):=by
 have ot:∀z∈ks.take i,z.ok:=fun z hz=>o z (List.mem_of_mem_take hz)
 rw[axS ha (azC h ot) (au0 (o k (bH ek)) h),bI,ek]
 congr 1
 exact (atA _ _ _ _).symm
noncomputable def DV(c:Cs)(H:Hp)(v:V):Option (List Mk)->Prop
 |none=>v=.non
 |some ks=>∃p qs,v=.ref p/\H p=some (.lst (qs.map V.ref))/\Ft (MkAt c H) qs ks/\∀k∈ks,k.ok
theorem DV.keep{c:Cs}{H H':Hp}(s:Same H H'){v:V}:∀{ko:Option (List Mk)},DV c H v ko->DV c H' v ko
 |none,h=>h
 |some _,⟨p,qs,e,h1,h2,h3⟩=>⟨p,qs,e,s _ _ h1,h2.keepM s.keep,h3⟩
noncomputable def orO(ko:Option (List Mk))(a l f:Int):Int:=match ko with
 |none=>a
 |some ks=>Builtin.bitOr a (orK ks l f)
noncomputable def ab1(kd kw:Option (List Mk))(l f:Int):Int:=if kd.isNone=true/\kw.isNone=true then 2*2^l.toNat-2 else orO kw (orO kd 0 l f) l f
noncomputable def DT(b:Bool)(t:List Nat)(ko:Option (List Mk)):Prop:=(32∉t/\t≠[])/\ItemsOk b (lo_ b) (hi_ b) t/\match ko with
 |none=>t=[42]
 |some ks=>t≠[42]/\(∀k∈ks,k.sp=true/\k.wk=b/\k.ok)/\amT b (lo_ b) (hi_ b) t=abN b ks
noncomputable def gO(b:Bool):Option (List Mk)->Option (List Mk)
 |none=>none
 |some ks=>some (abN b ks)
theorem aDD{b:Bool}{t:List Nat}{ko:Option (List Mk)}(h:DT b t ko){a l f:Int}(hl:Lf l f):orO (gO b ko) a l f=orO ko a l f:=by
 cases ko with
 |none=>rfl
 |some ks=>
  show Builtin.bitOr a (orK (abN b ks) l f)=Builtin.bitOr a (orK ks l f)
  rw[azL h.2.2.2.1 hl]
theorem av6(b:Bool)(ko:Option (List Mk)):(gO b ko).isNone=ko.isNone:=by cases ko<;>rfl
theorem aBI{t u:List Nat}{kd kw:Option (List Mk)}(hd:DT false t kd)(hw:DT true u kw){l f:Int}(hl:Lf l f):ab1 (gO false kd) (gO true kw) l f=ab1 kd kw l f:=by
 unfold ab1
 rw[av6,av6,aDD hd hl,aDD hw hl]
theorem adM{c d:Nat}(hcd:c≠d):∀{ws:List (List Nat)},(∀w∈ws,c∉w)->c∉aaK d ws
 |[],_=>cB
 |[w],h=>h w (bB ..)
 |w::v::ws,h=>by
  show c∉w++d::aaK d (v::ws)
  rw[bK,aR,not_or,not_or]
  exact⟨h w (bB ..),hcd,adM hcd fun z hz=>h z (bD _ hz)⟩
theorem ak7:∀{ws:List (List Nat)},ws≠[]->(∀w∈ws,w≠[])->∀d,aaK d ws≠[]
 |[],h,_,_=>absurd rfl h
 |[w],_,h,_=>h w (bB ..)
 |w::v::ws,_,h,d=>fun e=>by
  have e:w++d::aaK d (v::ws)=[]:=e
  rw[List.append_eq_nil_iff] at e
  cases e.2
theorem aH7{b:Bool}{ws:List (List Nat)}{ks:List Mk}(h:Ws b ws ks)(hne:ws≠[])(hn:ws.length<=20)(hs:∀w∈ws,w≠[42])(ho:∀k∈ks,k.sp=true/\k.wk=b/\k.ok):DT b (aaK 44 ws) (some ks):=by
 have w:=aDM h hne hn
 refine⟨⟨adM (by decide) fun x hx=>(h.cl x hx).1.2,ak7 hne (fun x hx=>(h.cl x hx).2.1) 44⟩,w.2,fun e=>?_,ho,asQ h w.1⟩
 have e1:=w.1
 rw[e] at e1
 have e2:spl 44 [42]=[[42]]:=rfl
 rw[e2] at e1
 exact hs [42] (by rw[←e1];exact bG.mpr rfl) rfl
theorem awG(b:Bool):DT b [42] none:=by
 refine⟨by decide,?_,rfl⟩
 have c:Cl [42]/\SpT b [42] (if b=true then .wkd 127 else .num 4294967294):=by
  cases b with
  |true=>exact⟨by decide,rfl,255,by decide +kernel,by decide,by decide +kernel⟩
  |false=>exact⟨by decide,rfl,by decide +kernel,by decide⟩
 exact (aDM (.cons c .nil:Ws b [[42]] _) (dD _ _) (by show 1<=20;decide)).2
structure FT(lo hi:Int)(t:List Nat)(m:Int):Prop where
 ok:awX lo hi t
 len:t.length<=300
 is:orM (acM lo hi t)=m
 sp:32∉t
 ne:t≠[]
 nn:0<=m
theorem atW{lo hi:Int}{ws:List (List Nat)}{nss:List (List Int)}(h:Paired (acP lo hi) ws nss)(hne:ws≠[])(hn:ws.length<=20):FT lo hi (aaK 44 ws) (aa3 nss.flatten):=by
 have all:∀{ws:List (List Nat)} {nss:List (List Int)},Paired (acP lo hi) ws nss->(∀w∈ws,Cl w/\(aaG lo hi w).isSome=true)/\(ws.map fun w=>(aaG lo hi w).getD 0)=nss.map aa3:=by
  intro ws nss h
  induction h with
  |nil=>exact⟨fun w hw=>(nomatch hw),rfl⟩
  |cons r t ih=>
   refine⟨fun w hw=>?_,?_⟩
   ·rcases aR.mp hw with z | z
    ·subst z;exact⟨r.2.1,by rw[r.1];rfl⟩
    ·exact ih.1 w z
   ·rw[bR,bR,ih.2,r.1];rfl
 have a:=all h
 have hs:=acG 44 ws hne fun w hw=>(a.1 w hw).1.1.1
 have hl:=ae3 ws fun w hw=>(a.1 w hw).1.2.2
 refine⟨⟨by rw[hs];omega,by rw[hs];exact fun w hw=>(a.1 w hw).2⟩,by omega,?_,adM (by decide) fun x hx=>(a.1 x hx).1.1.2,ak7 hne (fun x hx=>(a.1 x hx).1.2.1) 44,aaS _⟩
 unfold acM
 rw[hs,a.2]
 have nn:∀m∈nss.map aa3,0<=m:=fun m hm=>by
  obtain⟨z,_,rfl⟩:=a9.mp hm
  exact aaS _
 refine aa0 (abQ nn) (aaS _) fun i=>?_
 rw[abU nn,aa2,cN,List.any_flatten]
 exact adN fun z _=>aa2 z i
end KM
namespace L2
open PySem PySem.Spec PyProof.Rows
section
open PySem.W Builtin Builtin.ObjectAttr
variable{prog:Program}{w:World}{A:Around}{E:Value->Shared->Prop}{s:Shared}{K:FG}{x C:Addr}{f:Str}{v:Value}{o:Obj}{vs:Array Value}
end
noncomputable def PY(e C:Addr)(d:Option Addr)(h:Heap):Prop:=∃(vs:Array Value) (sl:Array (Option Value)),h.get? e=some ⟨.ref C,d,.fields vs,sl⟩/\vs[1]? =some .none/\vs[2]? =some .none/\4<vs.size
noncomputable def xn(a C:Addr)(d:Option Addr):HO:=.ext (PY a C d)
theorem PY.ok{P:Program}{w:World}{H:Hp}{h:Heap}{a C:Addr}{d:Option Addr}(x:PY a C d h):ObjOk P w H h a (xn a C d):=by
 obtain⟨vs,sl,e,r⟩:=id x
 exact⟨x,⟨_,e⟩,fun h1 h2 ⟨vs,sl,e,r⟩ k=>⟨vs,sl,k _ e,r⟩⟩
section
variable{X:Cx}{pins:List (Addr×Obj)}{σ:St}{H:Hp}{s:Shared}{a C:Addr}{f:Str}
end
section
variable{X:Cx}{o e value:Expr}{ta tv:TE}{f:Str}{pos pos':Pos}
end
section
open PySem.W
variable{prog:Program}{w:World}{A:Around}{E:Value->Shared->Prop}{s:Shared}{K:FG}{C fI:Addr}
end
section
variable{X:Cx}{pins:List (Addr×Obj)}{σ:St}{H:Hp}{s:Shared}
end
section
variable{prog:Program}{w:World}{A:Around}{E:Value->Shared->Prop}{s:Shared}{env:Env}
end
section
variable{X:Cx}{E:XK}{x:Str}{C:Addr}{e:Expr}{es:List Expr}{t:TA}{np cpos pos:Pos}{k k':Nat}{ps:List Str}{sp:Sp}
end
structure RoomQ(k:Nat)(A:Around):Prop where
 dp:A.depth+3*k+5<recursionLimit
 un:A.units+16*k+200<cLine
theorem Room.q{k:Nat}{A:Around}(r:Room k A):RoomQ k A:=⟨r.dp,r.un⟩
section
variable{P:Program}{w:World}{K:FG}{mg:Str->Option Value}{base:Heap}{N ps:List Str}{qual:Str}{scope:Scope}{f:Addr}{cd:Value}{A:Around}{outer:List Env}{s s1:Shared}{H:Hp}{us:List Value}{vs:List V}
end
section
variable{P:Program}{w:World}{K:FG}{mg:Str->Option Value}{base:Heap}{x:Str}{st:Stmt}{ps N:List Str}{k:Nat}{sp:Sp}
end
section
variable{X:Cx}{k k':Nat}{ps:List Str}{sp:Sp}{x:Str}{e:Expr}{es:List Expr}{tA:TA}{p pos:Pos}
end
section
variable{X:Cx}{f:Addr}{k k':Nat}{ps:List Str}{sp:Sp}{x y e:Expr}{es:List Expr}{tA:TA}{tv:TE}{p pos:Pos}{t u:TX}
end
section
variable{M:Model}{A:Around}{E:Value->Shared->Prop}{s:Shared}{f:Obj->Prop}{B:Heap}{env:Env}{outer:List Env}{L e:Addr}{fl:Value}{Q:Unit->Shared->Prop}
end
section
variable{P:Program}{w:World}{K:FG}{mg:Str->Option Value}{base:Heap}{N:List Str}{qual:Str}{scope:Scope}{f:Addr}{cd:Value}{A:Around}{outer:List Env}{s0:Shared}{H0:Hp}{E:XK}
end
section
variable{X:Cx}{elt iter tg:Expr}{xs:List Str}{pos:Pos}{ifs:List Expr}{scope:Scope}{cl:List (Str×Addr)}{N':List Str}{js:List Nat}{tt:TT}{g:TG}{wi:TI}
end
section
variable{P:Program}{w:World}{K:FG}{mg:Str->Option Value}{base:Heap}{N:List Str}{qual:Str}{scope0:Scope}{f:Addr}{cd:Value}{A:Around}{outer:List Env}{s0:Shared}{H0:Hp}{E:XK}
variable{elt iter tg:Expr}{pos:Pos}{ifs:List Expr}{scope:Scope}{js:List Nat}{tt:TT}{te:TX}{g:TG}{wi:TI}
end
section
variable{js:List Nat}{σ:St}{tt:TT}{te:TX}{E:XK}{Q:VK}{H1:Hp}
end
section
variable{P:Program}{w:World}{K:FG}{mg:Str->Option Value}{base:Heap}{m qual:Str}{st:Stmt}{ps N:List Str}{k:Nat}{sp:Sp}{C:Addr}
end
section
variable{X:Cx}{pins:List (Addr×Obj)}{σ:St}{H:Hp}{s:Shared}
end
section
variable{X:Cx}{E:XK}{x:Str}{C a:Addr}{e:Expr}{es:List Expr}{t:TA}{np cpos pos p2:Pos}{j k k':Nat}{ps:List Str}{sp:Sp}
end
theorem RoomQ.units{k:Nat}{A:Around}(r:RoomQ k A):A.units+64<cLine:=by have:=r.un;omega
section
variable{prog:Program}{w:World}{A:Around}{E:Value->Shared->Prop}{s:Shared}
end
section
variable{X:Cx}{elt iter:Expr}{x:Str}{px pos:Pos}{ifs:List Expr}{scope:Scope}{cl:List (Str×Addr)}{N':List Str}{js:List Nat}{tt:TT}{te:TE}
end
section
variable{X:Cx}{elt a1:Expr}{x:Str}{px pos p rpos:Pos}{ifs:List Expr}{scope:Scope}{js:List Nat}{tt:TT}{te:TE}{tA:TA}
end
section
variable{X:Cx}{pins:List (Addr×Obj)}{σ:St}{H:Hp}{s:Shared}
end
section
variable{X:Cx}{body suite:List Stmt}{b0:Stmt}{tb:TB}{th:Addr->TS}{cx n:Str}{np hpos pos:Pos}{CF:Addr}
end
section
variable{X:Cx}{E:XK}{x:Str}{C:Addr}{np cpos pos:Pos}
end
end L2
namespace L2
open PySem PySem.Spec PyProof.Rows PySem.SeqAt
section
variable{X:Cx}
end
section
variable{P:Program}{w:World}{K:FG}{mg:Str->Option Value}{base:Heap}{m qual:Str}{st:Stmt}{ps N:List Str}{k:Nat}{sp:Sp}{C:Addr}
end
section
variable{X:Cx}{x:Str}{C:Addr}{k k':Nat}{ps:List Str}{sp:Sp}{e:Expr}{es:List Expr}{t:TA}{p pos:Pos}{E:XK}
end
end L2
namespace L2
open PySem PySem.Spec PyProof.Rows PySem.SeqAt
section
variable{X:Cx}{m:Str}{C:Addr}{k:Nat}{ps:List Str}{sp:Sp}{o:Expr}{ta:TE}{pos apos:Pos}
end
section
variable{X:Cx}
end
theorem aCJ{K:FG}{H H':Hp}{v:V}{t:Value}(s:Same H H')(h:TyOf K H v t):TyOf K H' v t:=by
 cases h with
 |non=>exact .non
 |bl x=>exact .bl x
 |int i=>exact .int i
 |str x=>exact .str x
 |flt x=>exact .flt x
 |lst e=>exact .lst (s _ _ e)
 |frz e=>exact .frz (s _ _ e)
 |tup e=>exact .tup (s _ _ e)
 |dK e=>exact .dK (s _ _ e)
 |dT e=>exact .dT (s _ _ e)
 |ins e c a n k m=>exact .ins (s _ _ e) c a n k m
noncomputable def IsB(K:FG)(C:Addr)(H:Hp)(v:V)(b:Bool):Prop:=∃t,TyOf K H v t/\PySem.W.kitOne K t (.ref C)=some b
theorem IsB.keep{K:FG}{C:Addr}{H H':Hp}{v:V}{b:Bool}(h:IsB K C H v b)(s:Same H H'):IsB K C H' v b:=by
 obtain⟨t,h1,h2⟩:=h
 exact⟨t,aCJ s h1,h2⟩
section
variable{X:Cx}{es:List Expr}{kk:Nat}{tpos:Pos}
end
section
variable{js:List Nat}{σ:St}{tt:TT}{te:TE}{Q:VK}{H1:Hp}
end
section
variable{js:List Nat}{σ:St}{tt:TT}{te:TE}{Q:VK}{H1:Hp}
end
section
variable{prog:Program}{w:World}{A:Around}{E:Value->Shared->Prop}{s:Shared}
end
section
variable{X:Cx}{es:List Expr}{kk:Nat}{tpos:Pos}
end
end L2
namespace L2
open PySem PySem.Spec PyProof.Rows PySem.SeqAt
section
variable{X:Cx}
end
section
variable{X:Cx}
end
noncomputable def SameBut(S:Addr->Prop)(H H':Hp):Prop:=∀b o,H b=some o->¬S b->H' b=some o
theorem SameBut.trans{S:Addr->Prop}{H H1 H2:Hp}(a:SameBut S H H1)(b:SameBut S H1 H2):SameBut S H H2:=fun c o h n=>b c o (a c o h n) n
theorem SameBut.seq{S:Addr->Prop}{K:FG}{H H':Hp}{a:Addr}{xs:List V}(e:SameBut S H H')(n:∀o,H a=some o->¬S a)(h:SqL K H a xs):SqL K H' a xs:=by
 rcases h with (h | ⟨o,h⟩) | h
 ·exact .inl (.inl (e _ _ h (n _ h)))
 ·exact .inl (.inr ⟨o,e _ _ h (n _ h)⟩)
 ·exact .inr h
theorem fsc{N P:List Str}{sc:Scope}(h1:sc.kind=.function:=by rfl)(h2:sc.isCoroutine=false:=by rfl)(h3:sc.isGenerator=false:=by rfl)(h4:N.Nodup:=by decide +kernel)(h5:N.take P.length=P:=by rfl)(h6:∀x∈P,sc.names.lookup x=some .local∨sc.names.lookup x=some .cell:=by decide +kernel)(h7:∀y∈sc.names,y.2≠ .free:=by decide +kernel):FnScope N P sc:=⟨h1,h2,h3,h4,h5,h6,h7⟩
theorem zL(n:Nat)(h:n<=100:=by decide):n<=sizeLine:=by rw[dQ];omega
end L2
namespace K45
open PySem PySem.Spec PyProof.Rows L2 KM
noncomputable def top(i:Nat):Stmt:=PySem.Challenge.pw_fivefields_k45_rows_shown.main.body.getD i (.Pass ⟨0,0,0,0⟩)
noncomputable abbrev anY:Stmt:=top 12
noncomputable abbrev ac2:Stmt:=top 13
noncomputable abbrev af5:Stmt:=top 14
noncomputable abbrev aoE:Stmt:=top 15
noncomputable abbrev amQ:Stmt:=top 7
noncomputable abbrev aoA:Stmt:=top 16
noncomputable abbrev atK:Stmt:=top 17
noncomputable abbrev aoS:Stmt:=top 18
noncomputable abbrev aoD:Stmt:=top 19
noncomputable abbrev aoG:Stmt:=top 20
noncomputable abbrev ajD:Stmt:=top 82
noncomputable abbrev aoL:Stmt:=top 83
noncomputable abbrev atE:Stmt:=top 77
noncomputable abbrev af9:Stmt:=top 23
noncomputable abbrev ahZ:Stmt:=top 24
noncomputable abbrev aDX:Stmt:=top 26
noncomputable abbrev aoX:Stmt:=top 36
noncomputable abbrev ahQ:Stmt:=top 37
noncomputable abbrev alJ:Stmt:=top 38
noncomputable abbrev agC:Stmt:=top 39
noncomputable abbrev alF:Stmt:=top 40
noncomputable abbrev aeM:Stmt:=top 41
noncomputable abbrev ajB:Stmt:=top 42
noncomputable abbrev ag5:Stmt:=top 43
noncomputable abbrev ahO:Stmt:=top 54
noncomputable abbrev am3:Stmt:=top 55
noncomputable abbrev afE:Stmt:=top 56
noncomputable abbrev ajL:Stmt:=top 57
noncomputable abbrev aiZ:Stmt:=aaP (top 58) 0
noncomputable abbrev acW:Stmt:=aaP (top 59) 0
noncomputable abbrev aeU:Stmt:=aaP (top 59) 1
noncomputable abbrev aa9:Stmt:=aaP (top 60) 0
noncomputable abbrev ai6:Stmt:=aaP (top 60) 1
noncomputable abbrev aeB:Stmt:=aaP (top 61) 0
noncomputable abbrev ajN:Stmt:=aaP (top 61) 1
noncomputable abbrev aeH:Stmt:=aaP (top 62) 0
noncomputable abbrev acQ:Stmt:=aaP (top 63) 0
noncomputable abbrev aeE:Stmt:=aaP (top 63) 1
noncomputable abbrev afD:Stmt:=aaP (top 64) 0
noncomputable abbrev alB:Stmt:=aaP (top 64) 1
noncomputable abbrev acX:Stmt:=aaP (top 65) 0
noncomputable abbrev ae6:Stmt:=aaP (top 65) 1
noncomputable abbrev amW:Stmt:=top 66
noncomputable abbrev aeD:Stmt:=top 67
noncomputable abbrev ae7:Stmt:=top 68
noncomputable abbrev acN:Stmt:=top 69
noncomputable abbrev ahH:Stmt:=top 70
noncomputable abbrev aiX:Stmt:=top 71
noncomputable abbrev aeA:Stmt:=top 72
noncomputable abbrev alM:Stmt:=top 84
noncomputable abbrev amX:Stmt:=top 94
noncomputable abbrev aoU:Stmt:=top 95
noncomputable abbrev aeX:Stmt:=aaP (top 96) 0
noncomputable abbrev agB:Stmt:=aaP (top 96) 5
noncomputable abbrev ai7:Stmt:=top 98
noncomputable abbrev aoJ:Stmt:=top 99
noncomputable abbrev al3:Stmt:=top 100
noncomputable abbrev afC:Stmt:=top 102
noncomputable abbrev ajI:Stmt:=top 103
noncomputable abbrev agE:Stmt:=top 104
noncomputable abbrev ajG:Stmt:=top 106
noncomputable abbrev ajP:Stmt:=top 107
noncomputable abbrev ai8:Stmt:=top 109
noncomputable abbrev ae2:Stmt:=top 110
noncomputable abbrev ai3:Stmt:=top 111
noncomputable abbrev anX:Stmt:=top 112
noncomputable abbrev ai0:Stmt:=top 113
noncomputable abbrev ag4:Stmt:=top 114
noncomputable abbrev adL:Stmt:=top 115
noncomputable abbrev aeW:Stmt:=top 117
noncomputable abbrev alK:Stmt:=top 116
noncomputable abbrev ahR:Stmt:=top 126
noncomputable abbrev agP:Stmt:=aaP (top 96) 8
noncomputable abbrev ajT:Stmt:=top 118
noncomputable abbrev agD:Stmt:=top 119
noncomputable abbrev ajA:Stmt:=top 120
noncomputable abbrev ajK:Stmt:=top 121
noncomputable abbrev ajM:Stmt:=top 123
noncomputable abbrev af6:Stmt:=top 122
noncomputable abbrev ai4:Stmt:=top 27
noncomputable abbrev amV:Stmt:=top 28
noncomputable abbrev ajR:Stmt:=top 29
noncomputable abbrev agM:Stmt:=top 30
noncomputable abbrev afG:Stmt:=top 31
noncomputable abbrev aiY:Stmt:=aaP (top 58) 1
noncomputable abbrev aeT:Stmt:=aaP (top 59) 2
noncomputable abbrev ai9:Stmt:=aaP (top 60) 2
noncomputable abbrev ajS:Stmt:=aaP (top 61) 2
noncomputable abbrev aeI:Stmt:=aaP (top 62) 1
noncomputable abbrev aeG:Stmt:=aaP (top 63) 2
noncomputable abbrev al2:Stmt:=aaP (top 64) 2
noncomputable abbrev afH:Stmt:=aaP (top 65) 2
noncomputable abbrev agF:Stmt:=top 73
noncomputable abbrev agH:Stmt:=top 108
noncomputable abbrev aeC:Stmt:=top 125
noncomputable abbrev afK:Stmt:=top 124
noncomputable abbrev agI:Stmt:=top 44
noncomputable abbrev agK:Stmt:=top 97
noncomputable abbrev ai1:Stmt:=aaP (top 96) 9
noncomputable abbrev ajJ:Stmt:=top 127
noncomputable abbrev ahJ:Stmt:=top 128
noncomputable abbrev ae9:Stmt:=top 129
noncomputable abbrev ag9:Stmt:=top 130
noncomputable abbrev ai5:Stmt:=top 131
noncomputable abbrev aoN:Stmt:=top 132
noncomputable def abG(y:Int):Bool:=decide (y%4=0)&&(!decide (y%100=0)||decide (y%400=0))
noncomputable def mb(y s:Int):Int:=(y+s-1) / s
noncomputable def db(y:Int):Int:=365*y+(mb y 4-mb y 100+mb y 400)
noncomputable def lasts:List Int:=[31,28,31,30,31,30,31,31,30,31,30,31]
noncomputable def ac4(y:Int):Int:=if abG y=true then 1 else 0
noncomputable def aaF(y m:Int):Int:=if m=2 then 28+ac4 y else lasts.getD (m-1).toNat 0
theorem ab9(y:Int):abG y=true↔(y%4=0/\(y%100≠0∨y%400=0)):=by
 unfold abG
 simp
theorem ahF{y:Int}(h:y%4=0/\(y%100≠0∨y%400=0)):abG y=true:=(ab9 y).mpr h
theorem ag3{y:Int}(h:¬(y%4=0/\(y%100≠0∨y%400=0))):abG y=false:=by
 cases e:abG y
 ·rfl
 ·exact absurd ((ab9 y).mp e) h
theorem amE(y:Int):0<=ac4 y/\ac4 y<=1:=by
 unfold ac4
 split<;>omega
theorem an8(y:Int):db y=365*y+((y+3) / 4-(y+99) / 100+(y+399) / 400):=by
 have e1:y+4-1=y+3:=by omega
 have e2:y+100-1=y+99:=by omega
 have e3:y+400-1=y+399:=by omega
 unfold db mb
 rw[e1,e2,e3]
theorem ag8(y:Int):db (y+1)-db y=365+ac4 y:=by
 unfold ac4
 by_cases h:abG y=true
 ·rw[if_pos h]
  rw[ab9] at h
  unfold db mb
  omega
 ·rw[if_neg h]
  rw[ab9] at h
  unfold db mb
  omega
theorem alZ{m:Int}(h1:1<=m)(h2:m<=12):atI (lasts.map V.int) (m-1)=some (V.int (lasts.getD (m-1).toNat 0)):=by
 have hk:(m-1).toNat<12:=by omega
 have e:m-1=(((m-1).toNat:Nat):Int):=by omega
 rw[e]
 refine afR ?_
 rw[bP]
 generalize (m-1).toNat=j at hk
 match j,hk with
 |0,_ | 1,_ | 2,_ | 3,_ | 4,_ | 5,_ | 6,_ | 7,_ | 8,_ | 9,_ | 10,_ | 11,_=>rfl
 |n+12,h=>exact absurd h (by omega)
noncomputable def ahN(y:Int):Nat->Int
 |0=>0
 |n+1=>ahN y n+aaF y ((n:Int)+1)
noncomputable def ahead(y m:Int):Int:=ahN y (m-1).toNat
theorem agV{y m:Int}(h:1<=m):ahead y (m+1)=ahead y m+aaF y m:=by
 have e:(m+1-1).toNat=(m-1).toNat+1:=by omega
 have e2:(((m-1).toNat:Nat):Int)+1=m:=by omega
 unfold ahead
 rw[e]
 show ahN y (m-1).toNat+aaF y (((m-1).toNat:Int)+1)=_
 rw[e2]
theorem am0(y:Int):ahead y 13=365+ac4 y:=by
 show 0+aaF y 1+aaF y 2+aaF y 3+aaF y 4+aaF y 5+aaF y 6+aaF y 7+aaF y 8+aaF y 9+aaF y 10+aaF y 11+aaF y 12=_
 have e2:aaF y 2=28+ac4 y:=rfl
 rw[e2]
 show 0+31+(28+ac4 y)+31+30+31+30+31+31+30+31+30+31=_
 omega
theorem aoT{y m:Int}(h1:1<=m)(h2:m<=12):28<=aaF y m:=by
 have hl:=amE y
 unfold aaF
 split
 ·omega
 ·have hk:(m-1).toNat<12:=by omega
  generalize (m-1).toNat=j at hk
  match j,hk with
  |0,_ | 1,_ | 2,_ | 3,_ | 4,_ | 5,_ | 6,_ | 7,_ | 8,_ | 9,_ | 10,_ | 11,_=>decide
  |n+12,h=>exact absurd h (by omega)
theorem avY(y:Int):∀n:Nat,((List.range n).map fun i:Nat=>aaF y (1+(i:Int))).sum=ahN y n
 |0=>rfl
 |n+1=>by
  rw[aoV,List.sum_append,avY y n]
  show ahN y n+(aaF y (1+(n:Int))+0)=ahN y n+aaF y ((n:Int)+1)
  rw[Int.add_comm 1 (n:Int),Int.add_zero]
noncomputable def alC(k:Int):List Int:=if k / 7=12 then [2,29,k%7] else [k / 7+1,aaF 1 (k / 7+1),k%7]
noncomputable def mnA(k:Int):Int:=if k / 7=12 then 2 else k / 7+1
noncomputable def lnA(k:Int):Int:=if k / 7=12 then 29 else aaF 1 (k / 7+1)
theorem arY(k:Int):alC k=[mnA k,lnA k,k%7]:=by
 unfold alC mnA lnA
 split<;>rfl
theorem aBR:∀n:Nat,n<91->(1<=mnA n/\mnA n<=12)/\(28<=lnA n/\lnA n<=31):=by decide +kernel
theorem av4{k:Int}(h0:0<=k)(h1:k<=90):(1<=mnA k/\mnA k<=12)/\Lf (lnA k) (k%7):=by
 have z:=aBR k.toNat (by omega)
 rw[bA h0] at z
 exact⟨z.1,z.2,by omega,by omega⟩
noncomputable def DVn(c:Cs)(D:Addr)(H:Hp)(v:V)(ko:Option (List Mk)):Prop:=DV c H v ko/\∀p,v=.ref p->p≠D
theorem DVn.keep{c:Cs}{D:Addr}{H H':Hp}(s:Same H H'){v:V}{ko:Option (List Mk)}(h:DVn c D H v ko):DVn c D H' v ko:=⟨h.1.keep s,h.2⟩
theorem DVn.upd{c:Cs}{D:Addr}{H:Hp}{l':List V}{v:V}:∀{ko:Option (List Mk)},DVn c D H v ko->(∃l,H D=some (.lst l))->DVn c D (upd H D (.lst l')) v ko
 |none,h,_=>h
 |some ks,⟨⟨p,qs,e,h1,h2,h3⟩,hn⟩,⟨l,hl⟩=>⟨⟨p,qs,e,by rw[aaH (hn p e)];exact h1,h2.keepM (ab3 hl),h3⟩,hn⟩
noncomputable def RR(c:Cs)(m0 m1 m3:Int)(kd kw:Option (List Mk))(D:Addr)(i:Nat)(l:List V)(H:Hp):Prop:=match i with
 |0=>l=[]
 |1=>l=[.int m0]
 |2=>l=[.int m0,.int m1]
 |3=>∃dv,l=[.int m0,.int m1,dv]/\DVn c D H dv kd
 |4=>∃dv,l=[.int m0,.int m1,dv,.int m3]/\DVn c D H dv kd
 |_=>∃dv wv,l=[.int m0,.int m1,dv,.int m3,wv]/\DVn c D H dv kd/\DVn c D H wv kw
theorem RR.keep{c:Cs}{m0 m1 m3:Int}{kd kw:Option (List Mk)}{D:Addr}{l:List V}{H H':Hp}(s:Same H H'):∀{i:Nat},RR c m0 m1 m3 kd kw D i l H->RR c m0 m1 m3 kd kw D i l H'
 |0,h=>h
 |1,h=>h
 |2,h=>h
 |3,⟨dv,e,h⟩=>⟨dv,e,h.keep s⟩
 |4,⟨dv,e,h⟩=>⟨dv,e,h.keep s⟩
 |_+5,⟨dv,wv,e,h,h'⟩=>⟨dv,wv,e,h.keep s,h'.keep s⟩
theorem RR.upd{c:Cs}{m0 m1 m3:Int}{kd kw:Option (List Mk)}{D:Addr}{l l':List V}{H:Hp}(hl:∃l,H D=some (.lst l)):∀{i:Nat},RR c m0 m1 m3 kd kw D i l H->RR c m0 m1 m3 kd kw D i l (upd H D (.lst l'))
 |0,h=>h
 |1,h=>h
 |2,h=>h
 |3,⟨dv,e,h⟩=>⟨dv,e,h.upd hl⟩
 |4,⟨dv,e,h⟩=>⟨dv,e,h.upd hl⟩
 |_+5,⟨dv,wv,e,h,h'⟩=>⟨dv,wv,e,h.upd hl,h'.upd hl⟩
theorem aCZ{ws:List (List Nat)}(h:∀w∈ws,w≠[]):inV (.str (Tx [])) (ws.map fun q=>V.str (Tx q))=false:=by
 unfold inV
 rw[cN,cJ]
 intro w hw hc
 have e:Tx w=Tx []:=beq_iff_eq.mp (show (Tx w==Tx [])=true from hc)
 exact h w hw (by have:=congrArg (fun z=>z.cps.toList) e;simpa [Tx] using this)
noncomputable def ac9(m0 m1:Int)(dv:V)(m3:Int)(wv:V)(tm:Int):List (Str×V):=aaQ "time_mask" (.int tm) (aaQ "weekday_marks" wv (aaQ "month_mask" (.int m3) (aaQ "day_marks" dv (aaQ "hour_mask" (.int m1) (aaQ "minute_mask" (.int m0) [])))))
theorem acA(m0 m1:Int)(dv:V)(m3:Int)(wv:V)(tm:Int):(ac9 m0 m1 dv m3 wv tm).lookup ("minute_mask":Str)=some (.int m0):=by
 unfold ac9
 rw[aaD,if_neg (by decide +kernel),aaD,if_neg (by decide +kernel),aaD,if_neg (by decide +kernel),aaD,if_neg (by decide +kernel),aaD,if_neg (by decide +kernel),aaD,if_pos rfl]
theorem acZ(m0 m1:Int)(dv:V)(m3:Int)(wv:V)(tm:Int):(ac9 m0 m1 dv m3 wv tm).lookup ("hour_mask":Str)=some (.int m1):=by
 unfold ac9
 rw[aaD,if_neg (by decide +kernel),aaD,if_neg (by decide +kernel),aaD,if_neg (by decide +kernel),aaD,if_neg (by decide +kernel),aaD,if_pos rfl]
theorem aeO(m0 m1:Int)(dv:V)(m3:Int)(wv:V)(tm:Int):(ac9 m0 m1 dv m3 wv tm).lookup ("day_marks":Str)=some (dv):=by
 unfold ac9
 rw[aaD,if_neg (by decide +kernel),aaD,if_neg (by decide +kernel),aaD,if_neg (by decide +kernel),aaD,if_pos rfl]
theorem acL(m0 m1:Int)(dv:V)(m3:Int)(wv:V)(tm:Int):(ac9 m0 m1 dv m3 wv tm).lookup ("month_mask":Str)=some (.int m3):=by
 unfold ac9
 rw[aaD,if_neg (by decide +kernel),aaD,if_neg (by decide +kernel),aaD,if_pos rfl]
theorem adA(m0 m1:Int)(dv:V)(m3:Int)(wv:V)(tm:Int):(ac9 m0 m1 dv m3 wv tm).lookup ("weekday_marks":Str)=some (wv):=by
 unfold ac9
 rw[aaD,if_neg (by decide +kernel),aaD,if_pos rfl]
theorem akA(m0 m1:Int)(dv:V)(m3:Int)(wv:V)(tm:Int):(ac9 m0 m1 dv m3 wv tm).lookup ("days_in":Str)=none:=by
 unfold ac9
 rw[aaD,if_neg (by decide +kernel),aaD,if_neg (by decide +kernel),aaD,if_neg (by decide +kernel),aaD,if_neg (by decide +kernel),aaD,if_neg (by decide +kernel),aaD,if_neg (by decide +kernel)]
 rfl
theorem ad5(m0 m1:Int)(dv:V)(m3:Int)(wv:V)(tm:Int):(ac9 m0 m1 dv m3 wv tm).lookup ("shut_by":Str)=none:=by
 unfold ac9
 rw[aaD,if_neg (by decide +kernel),aaD,if_neg (by decide +kernel),aaD,if_neg (by decide +kernel),aaD,if_neg (by decide +kernel),aaD,if_neg (by decide +kernel),aaD,if_neg (by decide +kernel)]
 rfl
theorem agJ(m0 m1:Int)(dv:V)(m3:Int)(wv:V)(tm:Int):(ac9 m0 m1 dv m3 wv tm).lookup ("shown":Str)=none:=by
 unfold ac9
 rw[aaD,if_neg (by decide +kernel),aaD,if_neg (by decide +kernel),aaD,if_neg (by decide +kernel),aaD,if_neg (by decide +kernel),aaD,if_neg (by decide +kernel),aaD,if_neg (by decide +kernel)]
 rfl
noncomputable def SV(b:Bool)(H:Hp)(v:V):Option (List Mk)->Prop
 |none=>v=.non
 |some ks=>∃p us,v=.ref p/\H p=some (.lst (us.map V.ref))/\Ft (TpAt b H) us ks
theorem SV.keep{b:Bool}{H H':Hp}(s:Same H H'){v:V}:∀{ko:Option (List Mk)},SV b H v ko->SV b H' v ko
 |none,h=>h
 |some _,⟨p,us,e,h1,h2⟩=>⟨p,us,e,s _ _ h1,h2.keepT s.keep⟩
theorem arG{t:List Nat}(h:42∉t):t≠[42]:=fun e=>h (by rw[e];exact bG.mpr rfl)
theorem n42{n:Nat}(h:n<100):42∉num n:=aaU h (by decide)
theorem c42{a b:List Nat}(h1:42∉a)(h2:42∉b):42∉a++b:=fun h=>(bK.mp h).elim h1 h2
theorem auF{b:Bool}:∀{ws:List (List Nat)} {ks:List Mk} {t:List Nat} {k:Mk},Ws b ws ks->Cl t/\SpT b t k->Ws b (ws++[t]) (ks++[k])
 |_,_,_,_,.nil,h=>.cons h .nil
 |_,_,_,_,.cons r t,h=>.cons r (auF t h)
theorem adI{lo hi:Int}:∀{ws:List (List Nat)} {nss:List (List Int)},Paired (acP lo hi) ws nss->(∀w∈ws,Cl w)/\(∀n∈nss.flatten,lo<=n/\n<=hi)/\nss.flatten.length<=64*ws.length
 |_,_,.nil=>⟨fun w hw=>(nomatch hw),fun n hn=>(nomatch hn),aO _⟩
 |w::ws,ns::nss,.cons r t=>by
  obtain⟨h1,h2,h3⟩:=adI t
  refine⟨fun v hv=>?_,fun n hn=>?_,?_⟩
  ·rcases aR.mp hv with z | z
   ·subst z;exact r.2.1
   ·exact h1 v z
  ·rw[cV] at hn
   exact (bK.mp hn).elim (r.2.2.1 n) (h2 n)
  ·rw[cV,aP,bF]
   have:=r.2.2.2.2
   omega
theorem aBH{lo hi:Int}:∀{ws:List (List Nat)} {nss:List (List Int)},Paired (acP lo hi) ws nss->ws≠[]->nss.flatten≠[]
 |_,_,.nil,h=>absurd rfl h
 |_,_,.cons r _,_=>fun e=>r.2.2.2.1 (by rw[cV,List.append_eq_nil_iff] at e;exact e.1)
theorem ajQ{α β:Type}{F:α->β->Prop}:∀{l:List α} {r:List β} {a:α} {b:β},Paired F l r->F a b->Paired F (l++[a]) (r++[b])
 |_,_,_,_,.nil,h=>.cons h .nil
 |_,_,_,_,.cons x t,h=>.cons x (ajQ t h)
theorem auU{b:Bool}{ko:Option (List Mk)}{a l f:Int}(h:Lf l f)(o:∀ks,ko=some ks->∀k∈ks,k.ok)(ha:0<=a):0<=orO ko a l f:=by
 cases ko with
 |none=>exact ha
 |some ks=>exact adD ha (azC h (o ks rfl))
theorem iteB{c:Bool}{A B:Prop}(hB:B)(f:B->c=true->A):if c=true then A else B:=by
 cases c
 ·exact aaX hB
 ·exact abH (f hB rfl)
theorem agT{m:Int}(h:0<=m)(k:Nat):Builtin.bitAnd (m / 2^k) 1=0↔tb m k=false:=by
 have hb:=acT h k
 have h0:(0:Int)<=m / 2^k:=Int.ediv_nonneg h (Int.le_of_lt (acF k))
 have e:Builtin.bitAnd (m / 2^k) 1=0∨Builtin.bitAnd (m / 2^k) 1=1:=by
  have n1:=aqV h0 (show (0:Int)<=1 by decide)
  by_cases c:tb m k=true
  ·exact .inr (hb.mpr c)
  ·left
   refine aa0 n1 (aU 0) fun i=>?_
   rw[amZ h0 (by decide),abL]
   cases i with
   |zero=>
    have:tb (m / 2^k) 0=tb m k:=by
     have:=azB (m:=m) (k:=k) h 0
     simpa using this
    rw[this,show tb m k=false by simpa using c];rfl
   |succ i=>
    have:tb 1 (i+1)=false:=abJ (n:=1) (by decide) (by omega)
    rw[this,Bool.and_false]
 constructor
 ·intro z
  cases c:tb m k
  ·rfl
  ·rw[hb.mpr c] at z;cases z
 ·intro z
  rcases e with e | e
  ·exact e
  ·rw[hb.mp e] at z;cases z
noncomputable def tmF(h m:Int):Int:=orM ((atJ h).map fun z=>m*2^(60*z).toNat)
theorem awH{a b:Int}(h:a+1<=b):db (a+1)<=db b:=by rw[an8,an8];omega
theorem az0{q z:Int}(h:0<=z):db (q*400+z)<=146097*q+366*z:=by rw[an8];omega
noncomputable def OkD(y m k:Int):Prop:=(1<=m/\m<=12)/\1<=k/\k<=aaF y m
noncomputable def adB(y m k:Int):Int:=db y+ahead y m+k-1
theorem ayO(y:Int):∀(n d:Nat),n+d<=12->ahN y n<=ahN y (n+d)
 |_,0,_=>aU _
 |n,d+1,h=>by
  have h1:=ayO y n d (by omega)
  have h2:28<=aaF y (((n+d:Nat):Int)+1):=aoT (by omega) (by omega)
  show ahN y n<=ahN y (n+d)+aaF y (((n+d:Nat):Int)+1)
  omega
theorem ahK{y m n:Int}(h1:1<=m)(h2:m<=n)(h3:n<=13):ahead y m<=ahead y n:=by
 have e:(n-1).toNat=(m-1).toNat+(n-m).toNat:=by omega
 unfold ahead
 rw[e]
 exact ayO y _ _ (by omega)
theorem aAO{y m k:Int}(h:OkD y m k):db y<=adB y m k/\adB y m k<db (y+1)/\adB y m k<db y+ahead y (m+1):=by
 obtain⟨⟨h1,h2⟩,h3,h4⟩:=h
 have a1:=agV (y:=y) h1
 have a2:ahead y (m+1)<=ahead y 13:=ahK (by omega) (by omega) (by omega)
 have a3:=am0 y
 have a4:=ag8 y
 have a5:ahead y 1<=ahead y m:=ahK (by omega) h1 (by omega)
 have a6:ahead y 1=0:=rfl
 unfold adB
 omega
theorem aBX{y m k y' m' k':Int}(h:OkD y m k)(h':OkD y' m' k')(e:adB y m k=adB y' m' k'):y=y'/\m=m'/\k=k':=by
 have b:=aAO h
 have b':=aAO h'
 have ey:y=y':=by
  rcases Int.lt_trichotomy y y' with z | z | z
  ·have:=awH (a:=y) (b:=y') (by omega)
   omega
  ·exact z
  ·have:=awH (a:=y') (b:=y) (by omega)
   omega
 subst ey
 have em:m=m':=by
  rcases Int.lt_trichotomy m m' with z | z | z
  ·have:=ahK (y:=y) (m:=m+1) (n:=m') (by have:=h.1.1;omega) (by omega) (by have:=h'.1.2;omega)
   have q1:=h'.2.1
   have q2:adB y m' k'=db y+ahead y m'+k'-1:=rfl
   omega
  ·exact z
  ·have:=ahK (y:=y) (m:=m'+1) (n:=m) (by have:=h'.1.1;omega) (by omega) (by have:=h.1.2;omega)
   have q1:=h.2.1
   have q2:adB y m k=db y+ahead y m+k-1:=rfl
   omega
 subst em
 unfold adB at e
 exact⟨rfl,rfl,by omega⟩
noncomputable def plc(y m:Int):Int:=if m=2/\abG y=true then 12 else m-1
noncomputable def kindOf(y m:Int):Int:=7*plc y m+(db y+ahead y m+6)%7
theorem ayZ{y m:Int}(h1:1<=m)(h2:m<=12):0<=plc y m/\plc y m<=12:=by
 unfold plc
 split<;>omega
theorem awP{y m:Int}(h1:1<=m)(h2:m<=12):0<=kindOf y m/\kindOf y m<=90:=by
 have:=ayZ (y:=y) h1 h2
 unfold kindOf
 omega
theorem an0{y m:Int}(h:¬m=2):aaF y m=lasts.getD (m-1).toNat 0:=by unfold aaF;rw[if_neg h]
theorem ayU{y m:Int}(h1:1<=m)(h2:m<=12):alC (kindOf y m)=[m,aaF y m,kindOf y m%7]:=by
 have hp:=ayZ (y:=y) h1 h2
 have e:kindOf y m / 7=plc y m:=by unfold kindOf;omega
 unfold alC
 rw[e]
 by_cases c:m=2/\abG y=true
 ·have ep:plc y m=12:=by unfold plc;rw[if_pos c]
  have el:aaF y m=29:=by unfold aaF ac4;rw[if_pos c.1,if_pos c.2];rfl
  rw[ep,if_pos rfl,el,c.1]
 ·have ep:plc y m=m-1:=by unfold plc;rw[if_neg c]
  rw[ep,if_neg (by omega)]
  have e1:m-1+1=m:=by omega
  rw[e1]
  have el:aaF 1 m=aaF y m:=by
   by_cases c2:m=2
   ·have hl:¬abG y=true:=fun z=>c ⟨c2,z⟩
    unfold aaF ac4
    rw[if_pos c2,if_pos c2,if_neg hl]
    rfl
   ·rw[an0 c2,an0 c2]
  rw[el]
theorem an2{y m:Int}(h1:1<=m)(h2:m<=12):mnA (kindOf y m)=m/\lnA (kindOf y m)=aaF y m:=by
 have e:=ayU (y:=y) h1 h2
 rw[arY] at e
 injection e with e1 e
 injection e with e2 e
 exact⟨e1,e2⟩
theorem axE{y m:Int}(h1:1<=m)(h2:m<=12):28<=aaF y m/\aaF y m<=31:=by
 have e:=an2 (y:=y) h1 h2
 have k:=awP (y:=y) h1 h2
 rw[←e.2]
 exact (av4 k.1 k.2).2.1
theorem azF(y r:Int):abG (y+400*r)=abG y:=by
 rw[b7,ab9,ab9]
 omega
theorem asR(y r m:Int):aaF (y+400*r) m=aaF y m:=by
 unfold aaF ac4
 rw[azF]
theorem axA(y r:Int):∀n,ahN (y+400*r) n=ahN y n
 |0=>rfl
 |n+1=>by
  show ahN (y+400*r) n+aaF (y+400*r) ((n:Int)+1)=ahN y n+aaF y ((n:Int)+1)
  rw[axA y r n,asR]
theorem aFZ(y r:Int):db (y+400*r)=db y+146097*r:=by rw[an8,an8];omega
theorem aCN{y m k d r x:Int}(h:OkD y m k)(e:adB y m k=x)(ed:x+146097*r=d):OkD (y+400*r) m k/\adB (y+400*r) m k=d:=by
 refine⟨⟨h.1,h.2.1,by rw[asR];exact h.2.2⟩,?_⟩
 have a:ahead (y+400*r) m=ahead y m:=axA y r _
 unfold adB at e ⊢
 rw[aFZ,a]
 omega
noncomputable def shK(m0 m1 m3:Int)(kd kw:Option (List Mk))(d r y m k:Int):V:=
 if tb m3 m.toNat=false then .str (Tx [109,111,110,116,104]) else if tb (ab1 kd kw (aaF y m) ((d-k+1+6)%7)) k.toNat=false then .str (Tx [100,97,121])
 else if tb m1 (r / 60).toNat=false then .str (Tx [104,111,117,114]) else if tb m0 (r%60).toNat=false then .str (Tx [109,105,110,117,116,101]) else .non
section
variable{m0 m1 m3:Int}{kd kw:Option (List Mk)}{d r y m k:Int}
theorem sh1(h:tb m3 m.toNat=false):shK m0 m1 m3 kd kw d r y m k=.str (Tx [109,111,110,116,104]):=if_pos h
theorem sh2(h1:tb m3 m.toNat=true)(h:tb (ab1 kd kw (aaF y m) ((d-k+1+6)%7)) k.toNat=false):shK m0 m1 m3 kd kw d r y m k=.str (Tx [100,97,121]):=by
 unfold shK
 rw[if_neg (by rw[h1];decide),if_pos h]
theorem sh3(h1:tb m3 m.toNat=true)(h2:tb (ab1 kd kw (aaF y m) ((d-k+1+6)%7)) k.toNat=true)(h:tb m1 (r / 60).toNat=false):shK m0 m1 m3 kd kw d r y m k=.str (Tx [104,111,117,114]):=by
 unfold shK
 rw[if_neg (by rw[h1];decide),if_neg (by rw[h2];decide),if_pos h]
theorem sh4(h1:tb m3 m.toNat=true)(h2:tb (ab1 kd kw (aaF y m) ((d-k+1+6)%7)) k.toNat=true)(h3:tb m1 (r / 60).toNat=true)(h:tb m0 (r%60).toNat=false):shK m0 m1 m3 kd kw d r y m k=.str (Tx [109,105,110,117,116,101]):=by
 unfold shK
 rw[if_neg (by rw[h1];decide),if_neg (by rw[h2];decide),if_neg (by rw[h3];decide),if_pos h]
theorem sh5(h1:tb m3 m.toNat=true)(h2:tb (ab1 kd kw (aaF y m) ((d-k+1+6)%7)) k.toNat=true)(h3:tb m1 (r / 60).toNat=true)(h:tb m0 (r%60).toNat=true):shK m0 m1 m3 kd kw d r y m k=.non:=by
 unfold shK
 rw[if_neg (by rw[h1];decide),if_neg (by rw[h2];decide),if_neg (by rw[h3];decide),if_neg (by rw[h];decide)]
theorem aCI(hk:OkD y m k)(e:adB y m k=d):kindOf y m%7=(d-k+1+6)%7:=by
 unfold kindOf
 unfold adB at e
 omega
theorem awO(hk:OkD y m k):Lf (aaF y m) ((d-k+1+6)%7):=⟨axE hk.1.1 hk.1.2,by omega,by omega⟩
end
theorem ap7{m0 m1 m3 mo y m k y' m' k':Int}{kd kw:Option (List Mk)}{t u:List Nat}(hd:DT false t kd)(hw:DT true u kw)(h:OkD y m k)(h':OkD y' m' k')(e:adB y m k=mo / 1440)(e':adB y' m' k'=mo / 1440):
  shK m0 m1 m3 (gO false kd) (gO true kw) (mo / 1440) (mo%1440) y m k=shK m0 m1 m3 kd kw (mo / 1440) (mo%1440) y' m' k':=by
 obtain⟨rfl,rfl,rfl⟩:=aBX h h' (e.trans e'.symm)
 unfold shK
 rw[aBI hd hw (awO h)]
theorem aMX{b:Bool}(h:¬b=false):b=true:=by simpa using h
theorem awN{m:Int}{k:Nat}(h:0<=m)(c:¬Builtin.bitAnd (m / 2^k) 1=0):tb m k=true:=aMX fun z=>c ((agT h k).mpr z)
theorem arZ{kd kw:Option (List Mk)}{l f:Int}(h:Lf l f)(od:∀ks,kd=some ks->∀k∈ks,k.ok)(ow:∀ks,kw=some ks->∀k∈ks,k.ok):0<=ab1 kd kw l f:=by
 unfold ab1
 split
 ·have:=acF l.toNat
  have:(2:Int)^l.toNat ≥ 1:=by omega
  omega
 ·exact auU (b:=true) h ow (auU (b:=false) h od (aU 0))
theorem aDH{c:Cs}{H:Hp}{v:V}:∀{ko:Option (List Mk)},DV c H v ko->∀ks,ko=some ks->∀k∈ks,k.ok
 |some _,⟨_,_,_,_,_,h⟩,_,rfl=>h
theorem aDU{b:Bool}{H:Hp}{v:V}:∀{ko:Option (List Mk)},SV b H v ko->∀ks,ko=some ks->∀k∈ks,k.ok
 |some _,⟨_,_,_,_,f⟩,_,rfl=>fun k hk=>(f.okT k hk).2.2
theorem afU{zs:List Int}{i:Int}(h0:0<=i)(h1:i<zs.length):∃z,atI (zs.map V.int) i=some (V.int z):=by
 have hk:i.toNat<zs.length:=by omega
 have e:i=((i.toNat:Nat):Int):=by omega
 rw[e]
 exact⟨zs[i.toNat],afR (by rw[aY,bU hk];rfl)⟩
theorem aw1(a b:Int)(c:Bool):∃z,atI [V.int a,V.int b] (if c=true then 1 else 0)=some (V.int z):=by
 cases c
 ·exact⟨a,rfl⟩
 ·exact⟨b,rfl⟩
theorem ax3(w m:Int):(akV w m).lookup ("told":Str)=none:=by
 unfold akV
 rw[aaD,if_neg (by decide +kernel),aaD,if_neg (by decide +kernel)]
 rfl
theorem apX:∀(ws:List (List Nat)),(∀w∈ws,w.length<=200)->(aaK 44 ws).length<=201*ws.length
 |[],_=>aZ _
 |[w],h=>by
  have:=h w (bB ..)
  show w.length<=201
  omega
 |w::v::ws,h=>by
  have ih:=apX (v::ws) fun z hz=>h z (bD _ hz)
  have:=h w (bB ..)
  show (w++44::aaK 44 (v::ws)).length<=_
  rw[aP,bF,bF]
  omega
theorem ar2{k:Mk}(h:k.ok)(hb:k.bt):(abO k).length<=200:=by
 have n:∀z:Int,0<=z->z<=99->(num z.toNat).length<=2:=fun z h1 h2=>(abK _ (by omega)).2.2.2
 cases k with
 |num m=>
  obtain⟨prs,hr⟩:=acB (al8 h hb.2) 66 0 (by omega)
  show (rtm m).length<=200
  rw[adX (al8 h hb.2) hr]
  exact ak9 (al8 h hb.2) hr
 |wkd m=>
  obtain⟨prs,hr⟩:=acB (alN h.1 h.2) 66 0 (by omega)
  show (rtm m).length<=200
  rw[adX (alN h.1 h.2) hr]
  exact ak9 (alN h.1 h.2) hr
 |lst b=>
  have:=n b h.1 (by have:=h.2;omega)
  show (if b=0 then [76] else [76,45]++num b.toNat).length<=200
  split
  ·decide
  ·rw[aP];show 2+_<=200;omega
 |nea d=>
  have:=n d (by have:=h.1;omega) (by have:=h.2;omega)
  show (num d.toNat++[87]).length<=200
  rw[aP];show _+1<=200;omega
 |wrk=>decide
 |nth w m=>
  have:=n w h.1.1 (by have:=h.1.2;omega)
  have:=n m (by have:=h.2.1;omega) (by have:=h.2.2;omega)
  show (num w.toNat++[35]++num m.toNat).length<=200
  rw[aP,aP];show _+1+_<=200;omega
 |one w=>
  have:=n w h.1 (by have:=h.2;omega)
  show (num w.toNat++[76]).length<=200
  rw[aP];show _+1<=200;omega
 |nil=>exact aZ _
theorem avU{m:Int}(h:m<2^64)(z:Int):inV (.int z) ((flt (tb m) 0 64).map V.int)=(decide (0<=z)&&tb m z.toNat):=by
 rw[av9,b7,bY]
 simp only[bE,dX]
 constructor
 ·rintro⟨y,hy,rfl⟩
  obtain⟨n,hn,hp,rfl⟩:=flt_mem.mp hy
  exact⟨by omega,by rw[show (0+(n:Int)).toNat=n by omega];exact hp⟩
 ·rintro⟨h0,ht⟩
  refine⟨z,flt_mem.mpr ⟨z.toNat,?_,ht,by omega⟩,rfl⟩
  rcases cA z.toNat 64 with c | c
  ·exact c
  ·rw[abJ h c] at ht;cases ht
theorem al0{p:Nat->Bool}{q:Int->Bool}{lo:Int}:∀n,(flt p lo n).filter q=flt (fun i=>p i&&q (lo+(i:Int))) lo n
 |0=>by rw[acI,acI];rfl
 |n+1=>by
  rw[adS,adS,dH,al0 n]
  congr 1
  cases p n<;>cases e:q (lo+(n:Int))<;>simp[e]
theorem au1(m:Int):(flt (tb m) 0 64).filter (fun z=>pSt m z.toNat)=flt (pSt m) 0 64:=by
 rw[al0]
 refine an9 64 fun i _=>?_
 show (tb m i&&pSt m (0+(i:Int)).toNat)=pSt m i
 rw[show (0+(i:Int)).toNat=i by omega]
 unfold pSt
 cases tb m i<;>rfl
theorem ayC{m:Int}(h:m<2^64){ss es:List Nat}(e4:(ss.map fun x:Nat=>(x:Int))=flt (pSt m) 0 64)(e3:Paired (anZ m) ss es):aeJ m 0 (ss.zip es):=by
 have hmem:∀j:Nat,j∈ss↔(j:Int)∈flt (pSt m) 0 64:=fun j=>by
  rw[←e4,a9]
  exact⟨fun h=>⟨j,h,rfl⟩,fun ⟨k,h,e⟩=>by rw[←show k=j by omega];exact h⟩
 have hps:ss.Pairwise (·<·):=by
  have:=ad0 (pSt m) 0 64
  rw[←e4,List.pairwise_map] at this
  exact this.imp fun h=>by omega
 refine ap8 ss es 0 (.inl rfl) hps (fun j _=>?_) (fun j _=>aZ j) e3
 rw[hmem,flt_mem]
 refine⟨fun ⟨i,_,h2,h3⟩=>by rw[←show i=j by omega];exact h2,fun hh=>⟨j,?_,hh,by omega⟩⟩
 rcases cA j 64 with z | z
 ·exact z
 ·unfold pSt at hh
  rw[abJ h z] at hh
  exact absurd hh aW
theorem ar7{a b s lo hi:Int}(h0:0<=lo)(h1:lo<=a)(h2:b<=hi)(hs:0<s):∀i,tb (abV a b s) i=true->lo<=i/\(i:Int)<=hi:=by
 intro i hi'
 unfold abV at hi'
 rw[aa2,bY] at hi'
 obtain⟨z,hz,e⟩:=hi'
 have e':z.toNat=i:=dS e
 rw[abY,ahS hs] at hz
 obtain⟨j,hj,rfl⟩:=a9.mp hz
 rw[cQ] at hj
 split at hj
 ·have h3:(j:Int)<=(b-a) / s:=by omega
  have h4:(j:Int)*s<=b-a:=bZ (Int.mul_le_mul_of_nonneg_right h3 (by omega)) (Int.ediv_mul_le _ (by omega))
  have h5:0<=(j:Int)*s:=Int.mul_nonneg (by omega) (by omega)
  omega
 ·simp at hj
theorem ay7{lo hi a b:Int}{t:List Nat}(h:aaT lo hi t=some (a,b)):lo<=a/\b<=hi:=by
 unfold aaT at h
 split at h
 ·cases h;exact⟨aU _,aU _⟩
 ·have n:∀{w:List Nat} {z:Int},aaR lo hi w=some z->lo<=z/\z<=hi:=fun {w z} h=>by
   unfold aaR at h
   split at h
   ·split at h
    ·cases h;assumption
    ·cases h
   ·cases h
  have al:∀z:Int,some z∈(spl 45 t).map (aaR lo hi)->lo<=z/\z<=hi:=fun z hz=>by
   obtain⟨w,_,e⟩:=a9.mp hz
   exact n e
  generalize (spl 45 t).map (aaR lo hi)=es at h al
  unfold ahD at h
  split at h
  ·cases h;exact al _ (bB ..)
  ·split at h
   ·cases h
   ·cases h;exact⟨(al _ (bB ..)).1,(al _ (bD _ (bB ..))).2⟩
  ·cases h
theorem aoI{lo hi m:Int}{t:List Nat}(h0:0<=lo)(h:aaG lo hi t=some m):∀i,tb m i=true->lo<=i/\(i:Int)<=hi:=by
 unfold aaG at h
 split at h
 ·unfold abE at h
  split at h
  ·rename_i r s _ a b st e1 e2
   have z:=ay7 e1
   have hs:0<st:=by
    unfold aaR at e2
    split at e2
    ·split at e2
     ·cases e2;omega
     ·cases e2
    ·cases e2
   cases h
   refine ar7 h0 z.1 ?_ hs
   split
   ·exact aU _
   ·exact z.2
  ·cases h
 ·split at h
  ·rename_i a b e1
   have z:=ay7 e1
   cases h
   exact ar7 h0 z.1 z.2 (by decide)
  ·cases h
theorem aEG{b:Bool}{t:List Nat}{k:Mk}(h:SpT b t k):k.bt:=by
 cases k with
 |num m=>exact⟨h.2.2,fun i hi=>by have:=aoI (by decide) h.2.1 i hi;omega⟩
 |wkd m=>
  obtain⟨_,M,_,h2,rfl⟩:=h
  have:=aDJ h2.1 h2.2
  show 0<wk7 M
  omega
 |nil=>exact h.elim
 |_=>trivial
theorem aC3{b:Bool}{ws:List (List Nat)}{ks:List Mk}(h:Ws b ws ks):∀k∈ks,k.bt:=by
 induction h with
 |nil=>exact fun k hk=>nomatch hk
 |cons r t ih=>
  intro k hk
  rcases aR.mp hk with z | z
  ·rw[z];exact aEG r.2
  ·exact ih k z
theorem ar9{c n:Nat}:∀(ws:List (List Nat)),(∀w∈ws,w.length<=n)->(aaK c ws).length<=(n+1)*ws.length
 |[],_=>aZ _
 |[w],h=>by
  have:=h w (bB ..)
  show w.length<=(n+1)*1
  omega
 |w::v::ws,h=>by
  have ih:=ar9 (c:=c) (v::ws) fun z hz=>h z (bD _ hz)
  have:=h w (bB ..)
  show (w++c::aaK c (v::ws)).length<=(n+1)*((v::ws).length+1)
  rw[aP,bF,Nat.mul_add]
  omega
theorem atC{m:Int}{n:Nat}(h:∀j,tb m j=true->j<n):∀{prs:List (Nat×Nat)} {lo:Nat},aeJ m lo prs->lo<=n+1->lo+2*prs.length<=n+1
 |[],_,_,hl=>hl
 |(s,e)::r,lo,hr,hl=>by
  have h2:=hr.2.2.1
  have h3:=h e (hr.2.2.2.1 e h2 (aO _))
  have h1:=hr.1
  have:=atC h (prs:=r) (lo:=e+2) hr.2.2.2.2.2 (by omega)
  show lo+2*(r.length+1)<=n+1
  omega
theorem aHT{k:Mk}(hp:k.pl=none)(h:k.ok):(abO k).length<=5:=by
 have n:∀z:Int,0<=z->z<=99->(num z.toNat).length<=2:=fun z h1 h2=>(abK _ (by omega)).2.2.2
 cases k with
 |num m=>cases hp
 |wkd m=>cases hp
 |lst b=>
  have:=n b h.1 (by have:=h.2;omega)
  show (if b=0 then [76] else [76,45]++num b.toNat).length<=5
  split
  ·decide
  ·rw[aP];show 2+_<=5;omega
 |nea d=>
  have:=n d (by have:=h.1;omega) (by have:=h.2;omega)
  show (num d.toNat++[87]).length<=5
  rw[aP];show _+1<=5;omega
 |wrk=>decide
 |nth w m=>
  have:=n w h.1.1 (by have:=h.1.2;omega)
  have:=n m (by have:=h.2.1;omega) (by have:=h.2.2;omega)
  show (num w.toNat++[35]++num m.toNat).length<=5
  rw[aP,aP];show _+1+_<=5;omega
 |one w=>
  have:=n w h.1 (by have:=h.2;omega)
  show (num w.toNat++[76]).length<=5
  rw[aP];show _+1<=5;omega
 |nil=>exact aZ _
theorem aEZ{b:Bool}{ws:List (List Nat)}{ks:List Mk}(h:Ws b ws ks)(hne:ws≠[])(hn:ws.length<=40)(h5:∀w∈ws,w.length<=5)(hm:(otK ks).length<=20):spl 44 (aaK 44 ws)=ws/\ItemsOk b (lo_ b) (hi_ b) (aaK 44 ws):=by
 have hs:=acG 44 ws hne fun w hw=>(h.cl w hw).1.1
 have hl:=ar9 (c:=44) ws h5
 refine⟨hs,by omega,by rw[hs];omega,?_,?_⟩
 ·rw[hs]
  exact (asN b h).2.2.2
 ·rw[hs,(asN b h).1]
  exact hm
theorem azR{b:Bool}{ws:List (List Nat)}{ks js:List Mk}(h:Ws b ws ks)(hne:ws≠[])(hn:ws.length<=40)(h5:∀w∈ws,w.length<=5)(hm:(otK ks).length<=20)(hs:∀w∈ws,w≠[42])(ho:∀k∈js,k.sp=true/\k.wk=b/\k.ok)(hj:abN b ks=abN b js):DT b (aaK 44 ws) (some js):=by
 have w:=aEZ h hne hn h5 hm
 refine⟨⟨adM (by decide) fun x hx=>(h.cl x hx).1.2,ak7 hne (fun x hx=>(h.cl x hx).2.1) 44⟩,w.2,fun e=>?_,ho,(asQ h w.1).trans hj⟩
 have e1:=w.1
 rw[e] at e1
 have e2:spl 44 [42]=[[42]]:=rfl
 rw[e2] at e1
 exact hs [42] (by rw[←e1];exact bG.mpr rfl) rfl
theorem aoQ{b:Bool}{ks:List Mk}(h:∀k∈ks,k.sp=true/\k.wk=b/\k.ok):abN b (abN b ks)=abN b ks:=by
 have hot:=akY (os:=otK ks) fun k hk=>Option.isNone_iff_eq_none.mp (cU.mp hk).2
 have nn:0<=orM (plK ks):=abQ fun m hm=>(arU h m hm).1
 have e:plK (abM b (orM (plK ks)))=(if orM (plK ks)=0 then [] else [orM (plK ks)])/\otK (abM b (orM (plK ks)))=[]:=by
  unfold abM
  split
  ·exact⟨rfl,rfl⟩
  ·cases b<;>exact⟨rfl,rfl⟩
 have e2:orM (plK (abN b ks))=orM (plK ks):=by
  unfold abN
  rw[(ah9 _ _).1,hot.2,bS,e.1]
  split
  ·rename_i c;rw[c];rfl
  ·show Builtin.bitOr 0 (orM (plK ks))=_
   refine aa0 (adD (aU 0) nn) nn fun i=>?_
   rw[ahE (aU 0) nn,abL,Bool.false_or]
 have e3:otK (abN b ks)=otK ks:=by
  unfold abN
  rw[(ah9 _ _).2,e.2,hot.1,List.nil_append]
 show abM b (orM (plK (abN b ks)))++otK (abN b ks)=_
 rw[e2,e3]
 rfl
theorem aKR{b:Bool}{M:Int}{os:List Mk}{prs:List (Nat×Nat)}(h0:0<=M)(hb:if b=true then M<=127 else ∀i,tb M i=true->1<=i/\i<=31)(hr:aeJ M 0 prs)
  (ho:∀k∈os,k.pl=none/\k.sp=true/\k.wk=b/\k.ok) (hne:M≠0∨os≠[]) (hlen:os.length<=20):
  Ws b (prs.map rt++os.map abO) (prs.map (plm b)++os)/\abN b (prs.map (plm b)++os)=abM b M++os/\aaK 44 ((abM b M++os).map abO)=aaK 44 (prs.map rt++os.map abO)/\prs.map rt++os.map abO≠[]/\(prs.map rt++os.map abO).length<=36:=by
 have h64:M<2^64:=by
  cases b with
  |true=>exact alN h0 hb
  |false=>exact al8 h0 hb
 have bd:=ad4 h64 hr
 have bit:∀x∈prs,tb M x.1=true/\tb M x.2=true:=fun x hx=>by
  have z:=bd x hx
  rw[adK hr x.1 (aZ _),adK hr x.2 (aZ _),bY,bY]
  refine⟨⟨x,hx,?_⟩,⟨x,hx,?_⟩⟩<;>simp<;>omega
 have lims:∀x∈prs,lo_ b<=x.1/\x.1<=x.2/\(x.2:Int)<=hi_ b:=fun x hx=>by
  have z:=bd x hx
  have t:=bit x hx
  cases b with
  |true=>
   have:=aFA h0 hb x.2 t.2
   exact⟨by show (0:Int)<=_;omega,z.2.1,by show _<=(7:Int);omega⟩
  |false=>
   have t1:=hb x.1 t.1
   have t2:=hb x.2 t.2
   exact⟨by show (1:Int)<=_;omega,z.2.1,by show _<=(31:Int);omega⟩
 have plen:prs.length<=16:=by
  have:=atC (n:=32) (fun j hj=>by
   cases b with
   |true=>have:=aFA h0 hb j hj;omega
   |false=>have:=hb j hj;omega) hr (by omega)
  omega
 have hot:=akY (os:=os) fun k hk=>(ho k hk).1
 refine⟨aA5 (at0 fun x hx=>aET (lims x hx).1 (lims x hx).2.1 (lims x hx).2.2) ?_,?_,?_,?_,?_⟩
 ·have:=at0 (b:=b) (f:=abO) (g:=id) (l:=os) fun k hk=>aBW (ho k hk).1 (ho k hk).2.1 (ho k hk).2.2.1 (ho k hk).2.2.2
  rw[List.map_id] at this
  exact this
 ·unfold abN
  rw[(ah9 _ _).1,(ah9 _ _).2,(aq4 prs).1,(aq4 prs).2,hot.1,hot.2,bS,List.nil_append]
  congr 1
  cases b with
  |false=>exact congrArg (abM false) (apV h0 hr)
  |true=>
   have e:orM (prs.map fun x=>if true=true then wk7 (abV x.1 x.2 1) else abV x.1 x.2 1)=M:=by
    have e1:=auM (ms:=prs.map fun x:Nat×Nat=>abV x.1 x.2 1) fun m hm=>by
     obtain⟨x,_,rfl⟩:=a9.mp hm
     exact aaS _
    rw[apV h0 hr,aF1 h0 hb,bM] at e1
    exact e1.symm
   rw[e]
 ·by_cases c:M=0
  ·subst c
   rw[aEM hr]
   rfl
  ·have hp:prs≠[]:=fun e=>by
    subst e
    exact c (aa0 h0 (aU 0) fun i=>by rw[abL];exact hr i (aZ _))
   have e:(abM b M).map abO=[aaK 44 (prs.map rt)]:=by
    unfold abM
    rw[if_neg c]
    cases b with
    |true=>exact congrArg (fun z=>[z]) (adX h64 hr)
    |false=>exact congrArg (fun z=>[z]) (adX h64 hr)
   rw[aT,e]
   exact aBY fun z=>hp (cW.mp z)
 ·intro z
  rw[List.append_eq_nil_iff,cW,cW] at z
  rcases hne with c | c
  ·exact c (aa0 h0 (aU 0) fun i=>by rw[abL];rw[z.1] at hr;exact hr i (aZ _))
  ·exact c z.2
 ·rw[aP,aM,aM]
  omega
theorem aFU{b:Bool}{ks:List Mk}(h:∀k∈ks,k.sp=true/\k.wk=b/\k.ok)(hb:∀k∈ks,k.bt)(hn:ks≠[])(hl:(otK ks).length<=20):
  DT b (aaK 44 ((abN b ks).map abO)) (some (abN b ks)):=by
 have hp:=aDA h hb
 have h64:orM (plK ks)<2^64:=by
  cases b with
  |true=>exact alN hp.1 hp.2
  |false=>exact al8 hp.1 hp.2
 obtain⟨prs,hr⟩:=acB h64 66 0 (by omega)
 have hos:∀k∈otK ks,k.pl=none/\k.sp=true/\k.wk=b/\k.ok:=fun k hk=>by
  have z:=cU.mp hk
  exact⟨Option.isNone_iff_eq_none.mp z.2,h k z.1⟩
 obtain⟨a1,a2,a3,a4,a5⟩:=aKR hp.1 hp.2 hr hos (aw9 h hb hn) hl
 have e:abN b ks=abM b (orM (plK ks))++otK ks:=rfl
 have hot:=akY (os:=otK ks) fun k hk=>(hos k hk).1
 have hw:∀w∈prs.map rt++(otK ks).map abO,w.length<=5/\42∉w:=fun w hw=>by
  rcases bK.mp hw with y | y
  ·obtain⟨x,hx,rfl⟩:=a9.mp y
   have bd:=ad4 h64 hr x hx
   exact⟨auB (by omega) (by omega),aBS (x:=x) (by omega) (by omega)⟩
  ·obtain⟨k,hk,rfl⟩:=a9.mp y
   exact⟨aHT (hos k hk).1 (hos k hk).2.2.2,axJ (hos k hk).1 (hos k hk).2.2.2⟩
 have ej:aaK 44 ((abN b ks).map abO)=aaK 44 (prs.map rt++(otK ks).map abO):=by rw[e];exact a3
 rw[ej]
 refine azR a1 a4 (by omega) (fun w z=>(hw w z).1) ?_ (fun w z ez=>(hw w z).2 (by rw[ez];exact bG.mpr rfl)) (aeZ h) ?_
 ·rw[(ah9 _ _).2,(aq4 prs).2,hot.1,List.nil_append]
  exact hl
 ·rw[aoQ h]
  exact a2
noncomputable def shF(lo hi m:Int):List Nat:=if m=abV lo hi 1 then [42] else rtm m
theorem axW{lo hi:Int}{ws:List (List Nat)}{nss:List (List Int)}(h:Paired (acP lo hi) ws nss)(hne:ws≠[])(hn:ws.length<=40)(h5:∀w∈ws,w.length<=5):FT lo hi (aaK 44 ws) (aa3 nss.flatten):=by
 have all:∀{ws:List (List Nat)} {nss:List (List Int)},Paired (acP lo hi) ws nss->(∀w∈ws,Cl w/\(aaG lo hi w).isSome=true)/\(ws.map fun w=>(aaG lo hi w).getD 0)=nss.map aa3:=by
  intro ws nss h
  induction h with
  |nil=>exact⟨fun w hw=>(nomatch hw),rfl⟩
  |cons r t ih=>
   refine⟨fun w hw=>?_,?_⟩
   ·rcases aR.mp hw with z | z
    ·subst z;exact⟨r.2.1,by rw[r.1];rfl⟩
    ·exact ih.1 w z
   ·rw[bR,bR,ih.2,r.1];rfl
 have a:=all h
 have hs:=acG 44 ws hne fun w hw=>(a.1 w hw).1.1.1
 have hl:=ar9 (c:=44) ws h5
 refine⟨⟨by rw[hs];omega,by rw[hs];exact fun w hw=>(a.1 w hw).2⟩,by omega,?_,adM (by decide) fun x hx=>(a.1 x hx).1.1.2,ak7 hne (fun x hx=>(a.1 x hx).1.2.1) 44,aaS _⟩
 unfold acM
 rw[hs,a.2]
 have nn:∀m∈nss.map aa3,0<=m:=fun m hm=>by
  obtain⟨z,_,rfl⟩:=a9.mp hm
  exact aaS _
 refine aa0 (abQ nn) (aaS _) fun i=>?_
 rw[abU nn,aa2,cN,List.any_flatten]
 exact adN fun z _=>aa2 z i
theorem adT{lo hi m:Int}(h0:0<=lo)(hlh:lo<=hi)(h1:hi<=59)(hm:0<m)(hb:∀i,tb m i=true->lo<=i/\(i:Int)<=hi):FT lo hi (shF lo hi m) m:=by
 unfold shF
 split
 ·rename_i c
  have r:aaG lo hi [42]=some m:=by
   rw[c]
   show (match spl 47 [42] with | [r,s]=>abE lo hi r s | _=>match aaT lo hi [42] with | some (a,b)=>some (abV a b 1) | none=>none)=_
   rfl
  have hs:spl 44 [42]=[[42]]:=rfl
  refine⟨⟨by rw[hs];decide,by rw[hs];exact fun w hw=>by rw[bG.mp hw,r];rfl⟩,by decide,?_,by decide,by decide,by omega⟩
  unfold acM
  rw[hs]
  show orM [(aaG lo hi [42]).getD 0]=m
  rw[r]
  refine aa0 (abQ fun z hz=>by rw[bG.mp hz];show 0<=m;omega) (by omega) fun i=>?_
  rw[abU fun z hz=>by rw[bG.mp hz];show 0<=m;omega]
  simp
 ·have h64:m<2^64:=aEC (k:=60) (by omega) (by decide) fun i hi'=>by have:=hb i hi';omega
  obtain⟨prs,hr⟩:=acB h64 66 0 (by omega)
  rw[adX h64 hr]
  have bd:=ad4 h64 hr
  have hp:prs≠[]:=fun e=>by
   subst e
   have:m=0:=aa0 (by omega) (aU 0) fun i=>by rw[abL];exact hr i (aZ _)
   omega
  have lims:∀x∈prs,lo<=x.1/\x.1<=x.2/\(x.2:Int)<=hi:=fun x hx=>by
   have z:=bd x hx
   have t1:tb m x.1=true:=by
    rw[adK hr x.1 (aZ _),bY]
    exact⟨x,hx,by simp;omega⟩
   have t2:tb m x.2=true:=by
    rw[adK hr x.2 (aZ _),bY]
    exact⟨x,hx,by simp;omega⟩
   exact⟨(hb _ t1).1,z.2.1,(hb _ t2).2⟩
  have pm:∀l:List (Nat×Nat),(∀x∈l,lo<=x.1/\x.1<=x.2/\(x.2:Int)<=hi)->Paired (acP lo hi) (l.map rt) (l.map fun x=>ab4 x.1 x.2 1):=fun l=>by
   induction l with
   |nil=>exact fun _=>.nil
   |cons x l ih=>
    intro h
    have z:=h x (bB ..)
    exact .cons (aD0 h0 z.1 z.2.1 z.2.2 (by omega)) (ih fun y hy=>h y (bD _ hy))
  have ln:=ahL h64 hr (by omega)
  have f:=axW (pm prs lims) (fun z=>hp (cW.mp z)) (by rw[aM];omega) fun w hw=>by
   obtain⟨x,hx,rfl⟩:=a9.mp hw
   have:=bd x hx
   exact auB (by omega) (by omega)
  have e:aa3 (prs.map fun x=>ab4 (x.1:Int) (x.2:Int) 1).flatten=m:=by
   rw[←apV (by omega) hr]
   have nn:∀z∈prs.map (fun x=>abV (x.1:Int) (x.2:Int) 1),0<=z:=fun z hz=>by
    obtain⟨x,_,rfl⟩:=a9.mp hz
    exact aaS _
   refine aa0 (aaS _) (abQ nn) fun i=>?_
   rw[abU nn,aa2,cN,List.any_flatten,cN]
   exact adN fun z _=>(aa2 _ i).symm
  rw[e] at f
  exact f
theorem aCO{lo hi m:Int}{t:List Nat}(h:aaG lo hi t=some m):0<=m:=by
 unfold aaG at h
 split at h
 ·unfold abE at h
  split at h
  ·cases h;exact aaS _
  ·cases h
 ·split at h
  ·cases h;exact aaS _
  ·cases h
noncomputable def FldB(lo hi m:Int):Prop:=0<m/\∀i,tb m i=true->lo<=i/\(i:Int)<=hi
theorem aqY{lo hi m:Int}{t:List Nat}(h0:0<=lo)(h:FT lo hi t m)(hm:0<m):FldB lo hi m:=by
 refine⟨hm,?_⟩
 rw[←h.is]
 intro i hi'
 have each:∀z∈acM lo hi t,0<=z/\(tb z i=true->lo<=i/\(i:Int)<=hi):=fun z hz=>by
  obtain⟨w,hw,rfl⟩:=a9.mp hz
  obtain⟨m',e⟩:=c6.mp (h.ok.2 w hw)
  rw[e]
  exact⟨aCO e,aoI h0 e i⟩
 rw[abU fun z hz=>(each z hz).1,bY] at hi'
 obtain⟨z,hz,e⟩:=hi'
 exact (each z hz).2 e
theorem FldB.lt{lo hi m:Int}(h:FldB lo hi m){n:Nat}(hn:hi<n):m<2^n:=as3 (by have:=h.1;omega) fun i hi'=>by have:=h.2 i hi';omega
noncomputable def BtO:Option (List Mk)->Prop
 |none=>True
 |some ks=>ks≠[]/\(∀k∈ks,k.bt)/\(otK ks).length<=20/\ks.length<=21
noncomputable def shO(b:Bool):Option (List Mk)->List Nat
 |none=>[42]
 |some ks=>aaK 44 ((abN b ks).map abO)
theorem aw0{b:Bool}{t:List Nat}{ko:Option (List Mk)}(h:DT b t ko)(hb:BtO ko):DT b (shO b ko) (gO b ko):=by
 cases ko with
 |none=>exact awG b
 |some ks=>exact aFU h.2.2.2.1 hb.2.1 hb.1 hb.2.2.1
theorem awE{b:Bool}{t:List Nat}{ko:Option (List Mk)}(h:DT b t ko):shO b (gO b ko)=shO b ko:=by
 cases ko with
 |none=>rfl
 |some ks=>exact congrArg (fun z=>aaK 44 (z.map abO)) (aoQ h.2.2.2.1)
theorem alR(b:Bool)(ks:List Mk):(abN b ks).length<=1+(otK ks).length:=by
 unfold abN abM
 rw[aP]
 split
 ·exact dI (aZ 1) _
 ·split<;>exact aO _
theorem aN8{b:Bool}{t:List Nat}{ko:Option (List Mk)}(h:DT b t ko)(hb:BtO ko):BtO (gO b ko):=by
 cases ko with
 |none=>trivial
 |some ks=>
  have e:otK (abN b ks)=otK ks:=by
   have hot:=akY (os:=otK ks) fun k hk=>Option.isNone_iff_eq_none.mp (cU.mp hk).2
   unfold abN
   rw[(ah9 _ _).2,hot.1]
   unfold abM
   split
   ·rfl
   ·cases b<;>rfl
  have g:=alR b ks
  have:=hb.2.2.1
  refine⟨fun z=>?_,apY h.2.2.2.1 hb.2.1,by rw[e];exact hb.2.2.1,by omega⟩
  rcases aw9 h.2.2.2.1 hb.2.1 hb.1 with c | c
  ·unfold abN abM at z
   rw[if_neg c] at z
   cases b<;>cases z
  ·exact c (by rw[←e,z];rfl)
noncomputable def shR(m0 m1 m3:Int)(kd kw:Option (List Mk)):List (List Nat):=[shF 0 59 m0,shF 0 23 m1,shO false kd,shF 1 12 m3,shO true kw]
theorem aA1{m0 m1 m3:Int}{kd kw:Option (List Mk)}{w2 w4:List Nat}(h0:FldB 0 59 m0)(h1:FldB 0 23 m1)(h3:FldB 1 12 m3)(d2:DT false w2 kd)(d4:DT true w4 kw)(b2:BtO kd)(b4:BtO kw):(aaK 32 (shR m0 m1 m3 kd kw)).length<=1000000:=by
 have:=(adT (lo:=0) (hi:=59) (by decide) (by decide) (by decide) h0.1 h0.2).len
 have:=(adT (lo:=0) (hi:=23) (by decide) (by decide) (by decide) h1.1 h1.2).len
 have:=(adT (lo:=1) (hi:=12) (by decide) (by decide) (by decide) h3.1 h3.2).len
 have:=(aw0 d2 b2).2.1.len
 have:=(aw0 d4 b4).2.1.len
 have:=ar9 (c:=32) (n:=300) (shR m0 m1 m3 kd kw) fun w hw=>by
  simp only[shR,aR,cB,or_false] at hw
  rcases hw with rfl | rfl | rfl | rfl | rfl<;>assumption
 have e:(shR m0 m1 m3 kd kw).length=5:=rfl
 omega
theorem aEI{b:Bool}{ws:List (List Nat)}{ks:List Mk}(h:Ws b ws ks)(hne:ws≠[])(hl:ws.length<=20):BtO (some ks):=by
 have e:=Paired.length h
 have lo:=List.length_filter_le (fun k:Mk=>k.pl.isNone) ks
 refine⟨fun z=>?_,aC3 h,?_,by omega⟩
 ·rw[z] at e
  exact hne (List.eq_nil_of_length_eq_zero e)
 ·show (ks.filter fun k:Mk=>k.pl.isNone).length<=20
  omega
theorem aFD(m0 m1 m3:Int)(kd kw:Option (List Mk))(d r y m k:Int):shK m0 m1 m3 kd kw d r y m k=.non∨∃t,shK m0 m1 m3 kd kw d r y m k=.str (Tx t):=by
 unfold shK
 split
 ·exact .inr ⟨_,rfl⟩
 split
 ·exact .inr ⟨_,rfl⟩
 split
 ·exact .inr ⟨_,rfl⟩
 split
 ·exact .inr ⟨_,rfl⟩
 exact .inl rfl
theorem awB(m0 m1 m3:Int)(kd kw:Option (List Mk))(d r y m k:Int):aE7 (shK m0 m1 m3 kd kw d r y m k) (shK m0 m1 m3 kd kw d r y m k)=true:=by
 rcases aFD m0 m1 m3 kd kw d r y m k with h | ⟨t,h⟩<;>rw[h]<;>rfl
theorem awS{v:V}{A B:Prop}(h:B):if (!decide (v=v))=true then A else B:=by rw[dU rfl];exact aaX h
theorem aAY{ds:List Int}(h:ds.length=22)(hi:Option Int):∃zs:List Int,ae8 (ds.map V.int) (some 2) hi=zs.map V.int/\zs.length<=20/\∀z∈zs,z∈ds:=by
 refine⟨avM ds (some 2) hi,aAI ..,?_,fun z hz=>List.mem_of_mem_drop (List.mem_of_mem_take hz)⟩
 unfold avM
 rw[h,show HT.sIx 22 0 (some 2)=2 from rfl,cS,List.length_drop]
 omega
theorem aBE:Cl [42,47,50]/\SpT false [42,47,50] (.num (abV 1 31 2)):=⟨by decide,rfl,by decide +kernel,by decide +kernel⟩
theorem ayX{n:Int}(h:1<=n/\n<=30):Cl ([76,45]++num n.toNat)/\SpT false ([76,45]++num n.toNat) (.lst n):=by
 have z:=avC n.toNat (by omega) (by omega)
 rw[bA (by omega)] at z
 exact⟨z.2,z.1⟩
theorem ay8{n:Int}(h:1<=n/\n<=30):Cl (num n.toNat++[87])/\SpT false (num n.toNat++[87]) (.nea n):=by
 have z:=au7 n.toNat (by omega) (by omega)
 rw[bA (by omega)] at z
 exact⟨z.2,z.1⟩
structure Mny(H:Hp)(T S:Addr)(i:Nat)(ws:List (List Nat))(us:List Addr)(ks:List Mk):Prop where
 t:H T=some (.lst (ws.map fun x=>V.str (Tx x)))
 s:H S=some (.lst (us.map V.ref))
 f:Ft (TpAt false H) us ks
 w:Ws false ws ks
 l:∀w∈ws,w.length<=5/\w≠[42]
 nw:ws.length=i+1
 nu:us.length=i+1
 o:(otK ks).length<=i
theorem Mny.add{H H':Hp}{T S:Addr}{i:Nat}{ws:List (List Nat)}{us:List Addr}{ks:List Mk}{tw:List Nat}{u:Addr}{k:Mk}(h:Mny H T S i ws us ks)(hTS:T≠S)(kp:Keep H H')(hu:TpAt false H' u k)(hk:Cl tw/\SpT false tw k)(hp:k.pl=none)(hl:tw.length<=5)(h42:tw≠[42])(ht:H' T=some (.lst ((ws.map fun x=>V.str (Tx x))++[.str (Tx tw)])))(hs:H' S=some (.lst (us.map V.ref++[.ref u]))):Mny H' T S (i+1) (ws++[tw]) (us++[u]) (ks++[k]):=by
 refine⟨by rw[aT];exact ht,by rw[aT];exact hs,Ft.app (h.f.keepT kp) (.cons hu .nil),auF h.w hk,fun w hw=>(bK.mp hw).elim (h.l w) fun z=>by rw[bG.mp z];exact⟨hl,h42⟩,by rw[aP,h.nw];rfl,by rw[aP,h.nu];rfl,?_⟩
 have:=h.o
 rw[(agQ hp).2,aP]
 show _+1<=_
 omega
theorem Mny.step{H J:Hp}{T S pc u:Addr}{i:Nat}{ws:List (List Nat)}{us:List Addr}{ks:List Mk}{tw:List Nat}{k:Mk}{l:List V}(M:Mny J T S i ws us ks)(hT:H T=none)(hS:H S=none)(hTS:T≠S)(hp:pc≠T/\pc≠S)(sJ:Same H J)(hj:J pc=some (.lst l))(hk:Cl tw/\SpT false tw k)(hpl:k.pl=none)(hl:tw.length<=5)(h42:tw≠[42])(hok:k.sp=true/\k.wk=false/\k.ok)(hu:(upd J T (.lst ((ws.map fun x=>V.str (Tx x))++[.str (Tx tw)]))) u=none):
  Same H (upd (upd (upd J T (.lst ((ws.map fun x=>V.str (Tx x))++[.str (Tx tw)]))) u (.tup k.tup)) S (.lst (us.map V.ref++[.ref u])))/\(upd (upd (upd J T (.lst ((ws.map fun x=>V.str (Tx x))++[.str (Tx tw)]))) u (.tup k.tup)) S (.lst (us.map V.ref++[.ref u]))) pc=some (.lst l)/\Mny (upd (upd (upd J T (.lst ((ws.map fun x=>V.str (Tx x))++[.str (Tx tw)]))) u (.tup k.tup)) S (.lst (us.map V.ref++[.ref u]))) T S (i+1) (ws++[tw]) (us++[u]) (ks++[k]):=by
 have hS1:(upd J T (.lst ((ws.map fun x=>V.str (Tx x))++[.str (Tx tw)]))) S=some (.lst (us.map V.ref)):=by rw[aaH (Ne.symm hTS)];exact M.s
 have n1:=aaB hu (.tup k.tup)
 have hS2:=n1 _ _ hS1
 have hT2:=n1 _ _ (aaA (H:=J) (a:=T) (o:=.lst ((ws.map fun x=>V.str (Tx x))++[.str (Tx tw)])))
 have k3:=ab3 (l':=us.map V.ref++[.ref u]) hS2
 have kp:=((ab3 (l':=(ws.map fun x=>V.str (Tx x))++[.str (Tx tw)]) M.t).trans n1.keep).trans k3
 refine⟨aa4 hS ((aa4 hT sJ).trans n1),?_,M.add hTS kp ⟨k3.tup aaA,hok⟩ hk hpl hl h42 ?_ aaA⟩
 ·rw[aaH hp.2]
  exact n1 _ _ (by rw[aaH hp.1];exact hj)
 ·rw[aaH hTS]
  exact hT2
theorem aFO{ds:List Int}(h:Digs ds [4,20,60,60,60,60,60,60,60,60,60,60,60,60,60,60,60,60,60,60,60,60]):∃(d0 d1:Int) (r:List Int),ds=d0::d1::r/\r.length=20/\∀z∈d0::d1::r,0<=z/\z<60:=by
 have gen:∀{ds ss:List Int},Digs ds ss->ds.length=ss.length/\((∀s∈ss,s<=60)->∀z∈ds,0<=z/\z<60):=by
  intro ds ss h
  induction h with
  |nil=>exact⟨rfl,fun _ z hz=>nomatch hz⟩
  |cons r t ih=>
   refine⟨congrArg (·+1) ih.1,fun hs z hz=>?_⟩
   rcases aR.mp hz with c | c
   ·have:=hs _ (bB ..)
    rw[c]
    exact⟨r.1,by have:=r.2;omega⟩
   ·exact ih.2 (fun s hs'=>hs s (bD _ hs')) z c
 obtain⟨e,al⟩:=gen h
 have e:ds.length=22:=e
 have al:=al (by decide)
 match ds,e,al with
 |d0::d1::r,e,al=>exact⟨d0,d1,r,rfl,by simpa using e,al⟩
noncomputable def auW(K:FG):Sp:=fun vs H Q _=>∃y:Int,vs=[.int y]/\Q (.bl (abG y)) H
noncomputable def af1(K:FG):Sp:=fun vs H Q _=>∃y z:Int,vs=[.int y,.int z]/\(0<z/\z<1073741824)/\Q (.int (mb y z)) H
noncomputable def amM(K:FG):Sp:=fun vs H Q _=>∃y:Int,vs=[.int y]/\Q (.int (db y)) H
noncomputable def at6(K:FG):Sp:=fun vs H Q _=>∃y m:Int,vs=[.int y,.int m]/\(1<=m/\m<=12)/\Q (.int (aaF y m)) H
noncomputable def arW(K:FG):Sp:=fun vs H Q _=>∃i:Int,vs=[.int i]/\Q (.bl true) H
noncomputable def avL(K:FG):Sp:=fun vs H Q _=>∃y m k:Int,vs=[.int y,.int m,.int k]/\((1<=m/\m<=12)/\1<=k/\k<=aaF y m)/\Q (.bl true) H
noncomputable def axP(K:FG):Sp:=fun vs H Q _=>∃y m k:Int,vs=[.int y,.int m,.int k]/\((1<=m/\m<=12)/\1<=k/\k<=aaF y m)/\∀H',Same H H'->Q (.int (db y+ahead y m+k-1)) H'
noncomputable def au9(K:FG):Sp:=fun vs H Q _=>∃d:Int,vs=[.int d]/\∀y:Int,db y<=d->d<db (y+1)->Q (.int y) H
noncomputable def au8(K:FG):Sp:=fun vs H Q _=>∃d:Int,vs=[.int d]/\∀(y m k:Int) (p:Addr) (H':Hp),OkD y m k->adB y m k=d->Same H H'->H' p=some (.tup [.int y,.int m,.int k])->Q (.ref p) H'
noncomputable def avP(K:FG):Sp:=fun vs H Q _=>∃d:Int,vs=[.int d]/\Q (.int ((d+6)%7)) H
noncomputable def aqZ(K:FG):Sp:=fun vs H Q _=>∃y m d:Int,vs=[.int y,.int m,.int d]/\Q (.int (7*plc y m+(d+6)%7)) H
noncomputable def avJ(K:FG):Sp:=fun vs H Q _=>∃y m:Int,vs=[.int y,.int m]/\(1<=m/\m<=12)/\∀H':Hp,Same H H'->Q (.int (kindOf y m)) H'
noncomputable def ayD(K:FG):Sp:=fun vs H Q _=>∃mo:Int,vs=[.int mo]/\∀(p:Addr) (H':Hp),Same H H'->H' p=some (.tup [.int (mo / 1440),.int (mo%1440 / 60),.int (mo%1440%60)])->Q (.ref p) H'
noncomputable def amF(K:FG):Sp:=fun vs H Q _=>∃l:List Nat,vs=[.str (Tx l)]/\l.length<=2000/\∀H',Same H H'->Q (.bl (aqH l)) H'
noncomputable def anM(K:FG):Sp:=fun vs H Q _=>∃l:List Nat,vs=[.str (Tx l)]/\l.length<=2000/\∀H',Same H H'->Q (.bl (isW l)) H'
noncomputable def aD7(K:FG):Sp:=fun vs H Q _=>∃m n:Int,vs=[.int m,.int n]/\(0<=m/\0<=n)/\Q (.bl (tb m n.toNat)) H
noncomputable def at9(K:FG):Sp:=fun vs H Q _=>∃(a:Addr) (zs:List Int),vs=[.ref a]/\SqL K H a (zs.map V.int)/\(∀z∈zs,0<=z/\z<=100000)/\Q (.int (aa3 zs)) H
noncomputable def anF(K:FG):Sp:=fun vs H Q _=>∃m:Int,vs=[.int m]/\(0<=m/\Builtin.Int.intBits m<=100000)/\∀(p:Addr) (H':Hp),Same H H'->H' p=some (.lst ((atJ m).map V.int))->Q (.ref p) H'
noncomputable def ar3(K:FG):Sp:=fun vs H Q _=>∃a b s:Int,vs=[.int a,.int b,.int s]/\(0<=a/\a<=1000)/\(-1<=b/\b<=1000)/\(0<s/\s<=1000)/\∀H',Same H H'->Q (.int (abV a b s)) H'
noncomputable def am1(K:FG):Sp:=fun vs H Q _=>∃(l:List Nat) (lo hi:Int),vs=[.str (Tx l),.int lo,.int hi]/\l.length<=600/\∀H',Same H H'->Q (oV (aaR lo hi l)) H'
noncomputable def as7(K:FG):Sp:=fun vs H Q _=>∃(l:List Nat) (lo hi:Int),vs=[.str (Tx l),.int lo,.int hi]/\l.length<=500/\∀(r:V) (H':Hp),Same H H'->RunV H' r (aaT lo hi l)->Q r H'
noncomputable def ajY(K:FG):Sp:=fun vs H Q _=>∃(r s:List Nat) (lo hi:Int),vs=[.str (Tx r),.str (Tx s),.int lo,.int hi]/\r.length<=400/\s.length<=400/\(0<=lo/\lo<=hi/\hi<=1000)/\∀H',Same H H'->Q (oV (abE lo hi r s)) H'
noncomputable def ap1(K:FG):Sp:=fun vs H Q _=>∃(l:List Nat) (lo hi:Int),vs=[.str (Tx l),.int lo,.int hi]/\l.length<=300/\(0<=lo/\lo<=hi/\hi<=1000)/\∀H',Same H H'->Q (oV (aaG lo hi l)) H'
noncomputable def anU(K:FG):Sp:=fun vs H Q _=>∃(l:List Nat) (lo hi:Int),vs=[.str (Tx l),.int lo,.int hi]/\l.length<=300/\(0<=lo/\lo<=hi/\hi<=1000)/\awX lo hi l/\∀H',Same H H'->Q (.int (orM (acM lo hi l))) H'
noncomputable def am7(K:FG):Sp:=fun vs H Q _=>∃d f:Int,vs=[.int d,.int f]/\Q (.int ((f+d-1)%7)) H
noncomputable def arT(K:FG):Sp:=fun vs H Q _=>∃l:Int,vs=[.int l]/\(28<=l/\l<=31)/\Q (.int (2*2^l.toNat-2)) H
noncomputable def akL(K:FG):Sp:=fun vs H Q _=>∃d l f:Int,vs=[.int d,.int l,.int f]/\Q (.int (nw d l f)) H
noncomputable def aq9(K:FG):Sp:=fun vs H Q _=>∃w f:Int,vs=[.int w,.int f]/\Q (.int (1+(w-f)%7)) H
noncomputable def aqQ(K:FG)(C:Addr):Sp:=fun vs H Q _=>∃(p:Addr) (l f:Int),vs=[.ref p,.int l,.int f]/\Q (.int 0) H
noncomputable def afW(K:FG)(C:Addr):Sp:=fun vs H Q _=>∃(p dx:Addr) (m:Int),vs=[.ref p,.int m]/\H p=some (.ins C dx [])/\Q .non (upd H p (.ins C dx [("mask",.int m)]))
noncomputable def aj8(K:FG)(C:Addr):Sp:=fun vs H Q _=>∃(p dx:Addr) (m l f:Int),vs=[.ref p,.int l,.int f]/\H p=some (.ins C dx [("mask",.int m)])/\Lf l f/\Q (.int (anT m l)) H
noncomputable def aiA(K:FG)(C:Addr):Sp:=fun vs H Q _=>∃(p dx:Addr) (m:Int),vs=[.ref p,.int m]/\H p=some (.ins C dx [])/\Q .non (upd H p (.ins C dx [("back",.int m)]))
noncomputable def aq7(K:FG)(C:Addr):Sp:=fun vs H Q _=>∃(p dx:Addr) (b l f:Int),vs=[.ref p,.int l,.int f]/\H p=some (.ins C dx [("back",.int b)])/\(0<=b/\b<=30)/\Lf l f/\Q (.int (anR b l)) H
noncomputable def aiT(K:FG)(C:Addr):Sp:=fun vs H Q _=>∃(p dx:Addr) (m:Int),vs=[.ref p,.int m]/\H p=some (.ins C dx [])/\Q .non (upd H p (.ins C dx [("day",.int m)]))
noncomputable def apW(K:FG)(C:Addr):Sp:=fun vs H Q _=>∃(p dx:Addr) (d l f:Int),vs=[.ref p,.int l,.int f]/\H p=some (.ins C dx [("day",.int d)])/\Ok3 d l f/\Q (.int (aiL d l f)) H
noncomputable def aiI(K:FG)(C:Addr):Sp:=fun vs H Q _=>∃(p dx:Addr) (l f:Int),vs=[.ref p,.int l,.int f]/\H p=some (.ins C dx [])/\Ok3 l l f/\Q (.int (1*2^(nw l l f).toNat)) H
noncomputable def afM(K:FG)(C:Addr):Sp:=fun vs H Q _=>∃(p dx:Addr) (m:Int),vs=[.ref p,.int m]/\H p=some (.ins C dx [])/\Q .non (upd H p (.ins C dx [("mask",.int m)]))
noncomputable def aiK(K:FG)(C:Addr):Sp:=fun vs H Q _=>∃(p dx:Addr) (m l f:Int),vs=[.ref p,.int l,.int f]/\H p=some (.ins C dx [("mask",.int m)])/\(0<=m/\m<=127)/\Lf l f/\Q (.int (wkD m l f)) H
noncomputable def aj5(K:FG)(C:Addr):Sp:=fun vs H Q _=>∃(p dx:Addr) (w m:Int),vs=[.ref p,.int w,.int m]/\H p=some (.ins C dx [])/\Q .non (upd (upd H p (.ins C dx (aaQ "weekday" (.int w) []))) p (.ins C dx (akV w m)))
noncomputable def atG(K:FG)(C:Addr):Sp:=fun vs H Q _=>∃(p dx:Addr) (w m l f:Int),vs=[.ref p,.int l,.int f]/\H p=some (.ins C dx (akV w m))/\(0<=w/\w<=6)/\(1<=m/\m<=5)/\Lf l f/\Q (.int (ao6 w m l f)) H
noncomputable def afV(K:FG)(C:Addr):Sp:=fun vs H Q _=>∃(p dx:Addr) (m:Int),vs=[.ref p,.int m]/\H p=some (.ins C dx [])/\Q .non (upd H p (.ins C dx [("weekday",.int m)]))
noncomputable def aj7(K:FG)(C:Addr):Sp:=fun vs H Q _=>∃(p dx:Addr) (w l f:Int),vs=[.ref p,.int l,.int f]/\H p=some (.ins C dx [("weekday",.int w)])/\(0<=w/\w<=6)/\Lf l f/\Q (.int (aDR w l f)) H
noncomputable def as1(K:FG)(aB aD aF aH aE aA aG aI:Addr):Sp:=fun vs H Q _=>∃(b:Addr) (ps:List Addr) (ks:List Mk) (l f:Int),vs=[.ref b,.int l,.int f]/\SqL K H b (ps.map V.ref)/\Ft (MkAt (⟨aB,aD,aF,aH,aE,aA,aG,aI⟩:Cs) H) ps ks/\(∀k∈ks,k.ok)/\Lf l f/\Q (.int (orK ks l f)) H
noncomputable def ah4(K:FG)(aB aD aF aH aE aA aG aI:Addr):Sp:=fun vs H Q _=>∃t:List Nat,vs=[.str (Tx t)]/\t.length<=300/\∀(v:V) (H':Hp),Same H H'->MkV (⟨aB,aD,aF,aH,aE,aA,aG,aI⟩:Cs) H' v (adH t)->Q v H'
noncomputable def akS(K:FG):Sp:=fun vs H Q _=>∃t:List Nat,vs=[.str (Tx t)]/\t.length<=300/\∀H',Same H H'->Q (oV (wdN t)) H'
noncomputable def ae5(K:FG)(aB aD aF aH aE aA aG aI:Addr):Sp:=fun vs H Q _=>∃t:List Nat,vs=[.str (Tx t)]/\t.length<=300/\∀(v:V) (H':Hp),Same H H'->MkV (⟨aB,aD,aF,aH,aE,aA,aG,aI⟩:Cs) H' v (aq0 t)->Q v H'
noncomputable def anB(K:FG)(aB aD aF aH aE aA aG aI aK aL:Addr):Sp:=fun vs H Q _=>∃(l:List Nat) (lo hi:Int) (wk:Bool),vs=[.str (Tx l),.int lo,.int hi,.ref (if wk=true then aL else aK)]/\(0<=lo/\lo<=hi/\hi<=1000)/\ItemsOk wk lo hi l/\∀(p m:Addr) (qs:List Addr) (H':Hp),H m=none->Same H H'->H' p=some (.tup [.int (orM (plP lo hi (spl 44 l))),.ref m])->H' m=some (.lst (qs.map V.ref))->Ft (MkAt (⟨aB,aD,aF,aH,aE,aA,aG,aI⟩:Cs) H') qs (mkP wk lo hi (spl 44 l))->Q (.ref p) H'
noncomputable def arP(K:FG)(aB aD aF aH aE aA aG aI:Addr):Sp:=fun vs H Q _=>∃l:List Nat,vs=[.str (Tx l)]/\ItemsOk false 1 31 l/\(l=[42]->∀H',Same H H'->Q .non H')/\(l≠[42]->∀(m:Addr) (qs:List Addr) (H':Hp),H m=none->Same H H'->H' m=some (.lst (qs.map V.ref))->Ft (MkAt (⟨aB,aD,aF,aH,aE,aA,aG,aI⟩:Cs) H') qs (amT false 1 31 l)->Q (.ref m) H')
noncomputable def aiU(K:FG)(aB aD aF aH aE aA aG aI:Addr):Sp:=fun vs H Q _=>∃l:List Nat,vs=[.str (Tx l)]/\ItemsOk true 0 7 l/\(l=[42]->∀H',Same H H'->Q .non H')/\(l≠[42]->∀(m:Addr) (qs:List Addr) (H':Hp),H m=none->Same H H'->H' m=some (.lst (qs.map V.ref))->Ft (MkAt (⟨aB,aD,aF,aH,aE,aA,aG,aI⟩:Cs) H') qs (amT true 0 7 l)->Q (.ref m) H')
noncomputable def as0(K:FG):Sp:=fun vs H Q _=>∃k:Int,vs=[.int k]/\(0<=k/\k<=90)/\∀(p:Addr) (H':Hp),Same H H'->H' p=some (.tup ((alC k).map V.int))->Q (.ref p) H'
noncomputable def asK(K:FG):Sp:=fun vs H Q _=>∃h m:Int,vs=[.int h,.int m]/\(0<=h/\h<2^24)/\(0<=m/\m<2^60)/\∀(t:Int) (H':Hp),t=tmF h m->Same H H'->Q (.int t) H'
noncomputable def auD(K:FG)(aB aD aF aH aE aA aG aI:Addr):Sp:=fun vs H Q _=>∃(dv wv:V) (kd kw:Option (List Mk)) (l f:Int),vs=[dv,wv,.int l,.int f]/\DV (⟨aB,aD,aF,aH,aE,aA,aG,aI⟩:Cs) H dv kd/\DV (⟨aB,aD,aF,aH,aE,aA,aG,aI⟩:Cs) H wv kw/\Lf l f/\∀H',Same H H'->Q (.int (ab1 kd kw l f)) H'
noncomputable def akB(K:FG)(C:Addr):Sp:=fun vs H Q _=>∃(p dx fa:Addr) (m0 m1 m3:Int) (dv wv:V),vs=[.ref p,.ref fa]/\H p=some (.ins C dx [])/\H fa=some (.lst [.int m0,.int m1,dv,.int m3,wv])/\(0<=m0/\m0<2^60)/\(0<=m1/\m1<2^24)/\∀(tm:Int) (H':Hp),tm=tmF m1 m0->H' p=some (.ins C dx (ac9 m0 m1 dv m3 wv tm))->(∀b o,H b=some o->b≠p->H' b=some o)->Q .non H'
noncomputable def amP(K:FG)(C:Addr)(aB aD aF aH aE aA aG aI:Addr):Sp:=fun vs H Q _=>∃(p dx:Addr) (m0 m1 m3 tm k:Int) (dv wv:V) (kd kw:Option (List Mk)),vs=[.ref p,.int k]/\H p=some (.ins C dx (ac9 m0 m1 dv m3 wv tm))/\(0<=k/\k<=90)/\0<=m3/\DV (⟨aB,aD,aF,aH,aE,aA,aG,aI⟩:Cs) H dv kd/\DV (⟨aB,aD,aF,aH,aE,aA,aG,aI⟩:Cs) H wv kw/\∀H',Same H H'->Q (.int (if tb m3 (mnA k).toNat=true then ab1 kd kw (lnA k) (k%7) else 0)) H'
noncomputable def aqB(K:FG)(aB aD aF aH aE aA aG aI:Addr):Sp:=fun vs H Q _=>∃(t:List Nat) (pl:Int),vs=[.str (Tx t),.int pl]/\((pl=2/\∃ko,DT false t ko/\∀(v:V) (H':Hp),Same H H'->DV (⟨aB,aD,aF,aH,aE,aA,aG,aI⟩:Cs) H' v (gO false ko)->(∀p,v=.ref p->H p=none)->Q v H')∨(pl=4/\∃ko,DT true t ko/\∀(v:V) (H':Hp),Same H H'->DV (⟨aB,aD,aF,aH,aE,aA,aG,aI⟩:Cs) H' v (gO true ko)->(∀p,v=.ref p->H p=none)->Q v H')∨(∃lo hi m:Int,(pl=0/\lo=0/\hi=59∨pl=1/\lo=0/\hi=23∨pl=3/\lo=1/\hi=12)/\FT lo hi t m/\∀H',Same H H'->Q (.int m) H'))
noncomputable def avS(K:FG)(aB aD aF aH aE aA aG aI:Addr):Sp:=fun vs H Q _=>∃(t:List Nat) (pl:Int),vs=[.str (Tx t),.int pl]/\((pl=2/\∃ko,DT false t ko/\∀(v:V) (H':Hp),Same H H'->DV (⟨aB,aD,aF,aH,aE,aA,aG,aI⟩:Cs) H' v (gO false ko)->(∀p,v=.ref p->H p=none)->Q v H')∨(pl=4/\∃ko,DT true t ko/\∀(v:V) (H':Hp),Same H H'->DV (⟨aB,aD,aF,aH,aE,aA,aG,aI⟩:Cs) H' v (gO true ko)->(∀p,v=.ref p->H p=none)->Q v H')∨(∃lo hi m:Int,(pl=0/\lo=0/\hi=59∨pl=1/\lo=0/\hi=23∨pl=3/\lo=1/\hi=12)/\FT lo hi t m/\∀H',Same H H'->Q (.int m) H'))
noncomputable def asC(K:FG)(aB aD aF aH aE aA aG aI aJ:Addr):Sp:=fun vs H Q _=>∃(w0 w1 w2 w3 w4:List Nat) (m0 m1 m3:Int) (kd kw:Option (List Mk)),vs=[.str (Tx (aaK 32 [w0,w1,w2,w3,w4]))]/\FT 0 59 w0 m0/\FT 0 23 w1 m1/\FT 1 12 w3 m3/\DT false w2 kd/\DT true w4 kw/\(m0<2^60/\m1<2^24)/\∀(x dx:Addr) (dv wv:V) (tm:Int) (H':Hp),tm=tmF m1 m0->Same H H'->H' x=some (.ins aJ dx (ac9 m0 m1 dv m3 wv tm))->DV (⟨aB,aD,aF,aH,aE,aA,aG,aI⟩:Cs) H' dv (gO false kd)->DV (⟨aB,aD,aF,aH,aE,aA,aG,aI⟩:Cs) H' wv (gO true kw)->Q (.ref x) H'
noncomputable def ajZ(K:FG):Sp:=fun vs H Q _=>∃(a:Addr) (k:Int),vs=[.ref a,.int k]/\(∃ns:List Int,SqL K H a (ns.map V.int))/\(0<=k/\k<1000)/\∀c:Int,Q (.int c) H
noncomputable def arJ(K:FG):Sp:=fun vs H Q _=>∃n:Int,vs=[.int n]/\∀r:Int,0<=r->r<2147483629->Q (.int r) H
noncomputable def alQ(K:FG):Sp:=fun vs H Q _=>∃(c:Int) (a:Addr) (b:Bool) (ss:List Int),vs=[.int c,.ref a,.bl b]/\SqL K H a (ss.map V.int)/\(∀z∈ss,0<z/\z<1073741824)/\ss.length<=63/\∀(ds:List Int) (p:Addr) (H':Hp),Same H H'->H' p=some (.lst (ds.map V.int))->Digs ds ss->Q (.ref p) H'
noncomputable def ap6(K:FG):Sp:=fun vs H Q _=>∃(p:Addr) (way fi la st lo hi:Int),vs=[.int way,.int fi,.int la,.int st,.ref p]/\SqT K H p [.int lo,.int hi]/\(0<=lo/\lo<=hi/\hi<=63)/\∀(t u:Addr) (tw:List Nat) (ns:List Int) (H':Hp),Same H H'->H' t=some (.tup [.str (Tx tw),.ref u])->H' u=some (.lst (ns.map V.int))->acP lo hi tw ns->tw≠[42]->Q (.ref t) H'
noncomputable def apL(K:FG):Sp:=fun vs H Q _=>∃(a:Addr) (ns:List Int),vs=[.ref a]/\SqL K H a (ns.map V.int)/\ns.length<=1000/\(∀n∈ns,0<=n/\n<=62)/\∀(zs:List Int) (H':Hp),zs.Pairwise (·<·)->(∀x,x∈zs↔x∈ns)->Same H H'->Q (.int (ab5 zs)) H'
noncomputable def aqM(K:FG):Sp:=fun vs H Q _=>∃(p:Addr) (b:Bool) (way fi la st:Int),vs=[.ref p,.bl b]/\SqL K H p [.int way,.int fi,.int la,.int st]/\(0<=way/\way<16)/\∀(t u:Addr) (tw:List Nat) (k:Mk) (H':Hp),Same H H'->H' t=some (.tup [.str (Tx tw),.ref u])->H' u=some (.tup k.tup)->k.ok->k.sp=true->k.wk=b->SpT b tw k->Cl tw->tw≠[42]->Q (.ref t) H'
noncomputable def ajU(K:FG):Sp:=fun vs H Q _=>∃l f:Int,vs=[.int l,.int f]/\(28<=l/\l<=31)/\∀(p:Addr) (H':Hp),Same H H'->H' p=some (.lst ((ab6 f l.toNat).map V.int))->Q (.ref p) H'
noncomputable def aqE(K:FG):Sp:=fun vs H Q _=>∃d l f:Int,vs=[.int d,.int l,.int f]/\Ok3 d l f/\∀H':Hp,Same H H'->Q (.int (aiL d l f)) H'
noncomputable def au3(K:FG):Sp:=fun vs H Q _=>∃w l f:Int,vs=[.int w,.int l,.int f]/\(28<=l/\l<=31)/\∀(p:Addr) (H':Hp),Same H H'->H' p=some (.lst ((onN f w l.toNat).map V.int))->Q (.ref p) H'
noncomputable def aqO(K:FG):Sp:=fun vs H Q _=>∃(u:Addr) (k:Mk) (l f:Int),vs=[.ref u,.int l,.int f,.bl k.wk]/\H u=some (.tup k.tup)/\k.ok/\k.sp=true/\Lf l f/\∀H',Same H H'->Q (.int (k.due l f)) H'
noncomputable def am9(K:FG):Sp:=fun vs H Q _=>∃(c lo hi:Int) (bm:Bool),vs=[.int c,.int lo,.int hi,.bl bm]/\(0<=lo/\lo<hi/\hi<=62)/\∀(t:Addr) (tw:List Nat) (m:Int) (H':Hp),Same H H'->H' t=some (.tup [.str (Tx tw),.int m])->FT lo hi tw m->0<m/\m<2^(hi.toNat+1)->Q (.ref t) H'
noncomputable def ahU(K:FG):Sp:=fun vs H Q _=>∃(c:Int) (b bm:Bool),vs=[.int c,.bl b,.bl bm]/\∀(t:Addr) (tw:List Nat) (v:V) (ko:Option (List Mk)) (H':Hp),Same H H'->H' t=some (.tup [.str (Tx tw),v])->SV b H' v ko->DT b tw ko->BtO ko->Q (.ref t) H'
noncomputable def akG(K:FG):Sp:=fun vs H Q _=>∃(r:Addr) (mn l f m0 m1 m3:Int) (v2 v4:V) (kd kw:Option (List Mk)),vs=[.ref r,.int mn,.int l,.int f]/\H r=some (.lst [.int m0,.int m1,v2,.int m3,v4])/\SV false H v2 kd/\SV true H v4 kw/\0<=m3/\(1<=mn/\mn<=12)/\Lf l f/\∀H',Same H H'->Q (.int (if tb m3 mn.toNat=true then ab1 kd kw l f else 0)) H'
noncomputable def asU(K:FG):Sp:=fun vs H Q _=>∃(a:Addr) (c0 c1 c2 c3 c4:Int) (bm:Bool),vs=[.ref a,.bl bm]/\SqL K H a [.int c0,.int c1,.int c2,.int c3,.int c4]/\∀(t R:Addr) (w0 w1 w2 w3 w4:List Nat) (m0 m1 m3:Int) (v2 v4:V) (kd kw:Option (List Mk)) (H':Hp),Same H H'->H' t=some (.tup [.str (Tx (aaK 32 [w0,w1,w2,w3,w4])),.ref R])->H' R=some (.lst [.int m0,.int m1,v2,.int m3,v4])->FT 0 59 w0 m0->FT 0 23 w1 m1->FT 1 12 w3 m3->DT false w2 kd->DT true w4 kw->SV false H' v2 kd->SV true H' v4 kw->(0<m0/\0<m1/\0<m3)->BtO kd->BtO kw->(m0<2^60/\m1<2^24)->Q (.ref t) H'
noncomputable def anK(K:FG):Sp:=fun vs H Q _=>∃(a:Addr) (k:Int),vs=[.ref a,.int k]/\(∃ns:List Int,SqL K H a (ns.map V.int))/\(0<=k/\k<900)/\∀(p:Addr) (c0 c1 c2 c3 c4:Int) (H':Hp),Same H H'->H' p=some (.lst [.int c0,.int c1,.int c2,.int c3,.int c4])->Q (.ref p) H'
noncomputable def alV(K:FG)(C:Addr)(aB aD aF aH aE aA aG aI:Addr):Sp:=fun vs H Q _=>∃(p dx:Addr) (m0 m1 m3 tm mo:Int) (dv wv:V) (kd kw:Option (List Mk)),vs=[.ref p,.int mo]/\H p=some (.ins C dx (ac9 m0 m1 dv m3 wv tm))/\(0<=m0/\0<=m1/\0<=m3)/\DV (⟨aB,aD,aF,aH,aE,aA,aG,aI⟩:Cs) H dv kd/\DV (⟨aB,aD,aF,aH,aE,aA,aG,aI⟩:Cs) H wv kw/\∀(y m k:Int) (H':Hp),OkD y m k->adB y m k=mo / 1440->Same H H'->Q (shK m0 m1 m3 kd kw (mo / 1440) (mo%1440) y m k) H'
noncomputable def ao9(K:FG):Sp:=fun vs H Q _=>∃y:Int,vs=[.int y]/\Q (.bl (abG y)) H
noncomputable def amD(K:FG):Sp:=fun vs H Q _=>∃y:Int,vs=[.int y]/\Q (.int (db y)) H
noncomputable def aqF(K:FG):Sp:=fun vs H Q _=>∃y m:Int,vs=[.int y,.int m]/\(1<=m/\m<=12)/\∀H',Same H H'->Q (.int (aaF y m)) H'
noncomputable def apI(K:FG):Sp:=fun vs H Q _=>∃d:Int,vs=[.int d]/\∀(y m k:Int) (p:Addr) (H':Hp),OkD y m k->adB y m k=d->Same H H'->H' p=some (.tup [.int y,.int m,.int k])->Q (.ref p) H'
noncomputable def aqA(K:FG):Sp:=fun vs H Q _=>∃(r:Addr) (mo m0 m1 m3:Int) (v2 v4:V) (kd kw:Option (List Mk)),vs=[.ref r,.int mo]/\H r=some (.lst [.int m0,.int m1,v2,.int m3,v4])/\SV false H v2 kd/\SV true H v4 kw/\(0<=m0/\0<=m1/\0<=m3)/\∀(y m k:Int) (H':Hp),OkD y m k->adB y m k=mo / 1440->Same H H'->Q (shK m0 m1 m3 kd kw (mo / 1440) (mo%1440) y m k) H'
noncomputable def amB(K:FG):Sp:=fun vs H Q _=>∃(c:Int) (bm:Bool),vs=[.int c,.bl bm]/\∀(mo:Int) (H':Hp),Same H H'->Q (.int mo) H'
noncomputable def aqK(K:FG):Sp:=fun vs H Q _=>∃m:Int,vs=[.int m]/\(0<=m/\m<2^64)/\∀(p:Addr) (H':Hp),H p=none->Same H H'->H' p=some (.lst ((flt (pSt m) 0 64).map V.int))->Q (.ref p) H'
noncomputable def asZ(K:FG):Sp:=fun vs H Q _=>∃(m:Int) (s:Nat),vs=[.int m,.int s]/\(0<=m/\m<2^64)/\∀e:Nat,anZ m s e->Q (.int e) H
noncomputable def apT(K:FG):Sp:=fun vs H Q _=>∃m:Int,vs=[.int m]/\(0<=m/\m<2^64)/\∀(p:Addr) (H':Hp) (ts:List Addr) (prs:List (Nat×Nat)),H p=none->Same H H'->H' p=some (.lst (ts.map V.ref))->PrT H' ts prs->aeJ m 0 prs->(prs.map fun x=>(x.1:Int))=flt (pSt m) 0 64->Q (.ref p) H'
noncomputable def al5(K:FG):Sp:=fun vs H Q _=>∃x:Nat×Nat,vs=[.int x.1,.int x.2]/\(x.1<=63/\x.2<=63)/\Q (.str (Tx (rt x))) H
noncomputable def akO(K:FG):Sp:=fun vs H Q _=>∃(m:Int) (prs:List (Nat×Nat)),vs=[.int m]/\(0<=m/\m<2^64)/\aeJ m 0 prs/\∀H',Same H H'->Q (.str (Tx (rtx prs))) H'
noncomputable def aqS(K:FG)(C:Addr):Sp:=fun vs H Q _=>∃p:Addr,vs=[.ref p]/\Q (.str (Tx [])) H
noncomputable def aj4(K:FG)(C:Addr):Sp:=fun vs H Q _=>∃(p dx:Addr) (m:Int),vs=[.ref p]/\H p=some (.ins C dx [("mask",.int m)])/\(0<=m/\m<2^64)/\∀H',Same H H'->Q (.str (Tx (rtm m))) H'
noncomputable def aq3(K:FG)(C:Addr):Sp:=fun vs H Q _=>∃(p dx:Addr) (b:Int),vs=[.ref p]/\H p=some (.ins C dx [("back",.int b)])/\(0<=b/\b<=30)/\Q (.str (Tx (abO (.lst b)))) H
noncomputable def aqL(K:FG)(C:Addr):Sp:=fun vs H Q _=>∃(p dx:Addr) (d:Int),vs=[.ref p]/\H p=some (.ins C dx [("day",.int d)])/\(1<=d/\d<=31)/\Q (.str (Tx (abO (.nea d)))) H
noncomputable def ah2(K:FG)(C:Addr):Sp:=fun vs H Q _=>∃p:Addr,vs=[.ref p]/\Q (.str (Tx [76,87])) H
noncomputable def aiF(K:FG)(C:Addr):Sp:=fun vs H Q _=>∃(p dx:Addr) (m:Int),vs=[.ref p]/\H p=some (.ins C dx [("mask",.int m)])/\(0<=m/\m<2^64)/\∀H',Same H H'->Q (.str (Tx (rtm m))) H'
noncomputable def asH(K:FG)(C:Addr):Sp:=fun vs H Q _=>∃(p dx:Addr) (w m:Int),vs=[.ref p]/\H p=some (.ins C dx (akV w m))/\(0<=w/\w<=6)/\(1<=m/\m<=5)/\Q (.str (Tx (abO (.nth w m)))) H
noncomputable def akM(K:FG)(C:Addr):Sp:=fun vs H Q _=>∃(p dx:Addr) (d:Int),vs=[.ref p]/\H p=some (.ins C dx [("weekday",.int d)])/\(0<=d/\d<=6)/\Q (.str (Tx (abO (.one d)))) H
noncomputable def afO(K:FG)(aB aD aF aH aE aA aG aI:Addr):Sp:=fun vs H Q _=>∃x:V,vs=[x]/\((x=.non/\Q (.str (Tx [42])) H)∨∃(b:Addr) (ps:List Addr) (ks:List Mk),x=.ref b/\SqL K H b (ps.map V.ref)/\Ft (MkAt (⟨aB,aD,aF,aH,aE,aA,aG,aI⟩:Cs) H) ps ks/\(∀k∈ks,k.ok/\k.bt)/\ks.length<=100/\∀H',Same H H'->Q (.str (Tx (aaK 44 (ks.map abO)))) H')
noncomputable def alU(K:FG):Sp:=fun vs H Q _=>∃m:Int,vs=[.int m]/\(0<=m/\m<2^64)/\∀H',Same H H'->Q (.str (Tx (rtm m))) H'
noncomputable def aiO(K:FG):Sp:=fun vs H Q _=>∃(s:Addr) (us:List Addr) (ks:List Mk) (b:Bool),vs=[.ref s]/\SqL K H s (us.map V.ref)/\us.length<=1000/\Ft (TpAt b H) us ks/\∀(g:Addr) (us':List Addr) (H':Hp),H g=none->Same H H'->H' g=some (.lst (us'.map V.ref))->Ft (TpAt b H') us' (abN b ks)->Q (.ref g) H'
noncomputable def akK(K:FG):Sp:=fun vs H Q _=>∃(u:Addr) (k:Mk),vs=[.ref u]/\H u=some (.tup k.tup)/\k.sp=true/\k.ok/\k.bt/\∀H',Same H H'->Q (.str (Tx (abO k))) H'
noncomputable def alW(K:FG):Sp:=fun vs H Q _=>∃m lo hi:Int,vs=[.int m,.int lo,.int hi]/\(0<=lo/\lo<=hi/\hi<=59)/\FldB lo hi m/\∀H',Same H H'->Q (.str (Tx (shF lo hi m))) H'
noncomputable def amR(K:FG):Sp:=fun vs H Q _=>∃m pl lo hi:Int,vs=[.int m,.int pl]/\(pl=0/\lo=0/\hi=59∨pl=1/\lo=0/\hi=23∨pl=3/\lo=1/\hi=12)/\FldB lo hi m/\∀H',Same H H'->Q (.str (Tx (shF lo hi m))) H'
noncomputable def arA(K:FG)(C:Addr)(aB aD aF aH aE aA aG aI:Addr):Sp:=fun vs H Q _=>∃(p dx:Addr) (m0 m1 m3 tm:Int) (dv wv:V) (kd kw:Option (List Mk)) (w2 w4:List Nat),vs=[.ref p]/\H p=some (.ins C dx (ac9 m0 m1 dv m3 wv tm))/\FldB 0 59 m0/\FldB 0 23 m1/\FldB 1 12 m3/\DV (⟨aB,aD,aF,aH,aE,aA,aG,aI⟩:Cs) H dv (gO false kd)/\DV (⟨aB,aD,aF,aH,aE,aA,aG,aI⟩:Cs) H wv (gO true kw)/\DT false w2 kd/\DT true w4 kw/\BtO kd/\BtO kw/\∀H',Same H H'->Q (.str (Tx (aaK 32 (shR m0 m1 m3 kd kw)))) H'
noncomputable def apK(K:FG):Sp:=fun vs H Q _=>∃(p:Addr) (d0 d1:Int) (r:List Int),vs=[.ref p]/\H p=some (.lst ((d0::d1::r).map V.int))/\r.length=20/\(∀z∈d0::d1::r,0<=z/\z<60)/\∀(t S:Addr) (tw:List Nat) (ks:List Mk) (H':Hp),Same H H'->H' t=some (.tup [.str (Tx tw),.ref S])->SV false H' (.ref S) (some ks)->DT false tw (some ks)->BtO (some ks)->Q (.ref t) H'
noncomputable def am6(K:FG):Sp:=fun vs H Q _=>∃(v:V) (b:Bool) (ko:Option (List Mk)) (w:List Nat),vs=[v]/\SV b H v ko/\DT b w ko/\BtO ko/\∀H',Same H H'->Q (.str (Tx (shO b ko))) H'
noncomputable def akU(K:FG):Sp:=fun vs H Q _=>∃m lo hi:Int,vs=[.int m,.int lo,.int hi]/\(0<=lo/\lo<=hi/\hi<=59)/\FldB lo hi m/\∀H',Same H H'->Q (.str (Tx (shF lo hi m))) H'
noncomputable def anJ(K:FG):Sp:=fun vs H Q _=>∃(r:Addr) (m0 m1 m3:Int) (v2 v4:V) (kd kw:Option (List Mk)) (w2 w4:List Nat),vs=[.ref r]/\H r=some (.lst [.int m0,.int m1,v2,.int m3,v4])/\FldB 0 59 m0/\FldB 0 23 m1/\FldB 1 12 m3/\SV false H v2 kd/\SV true H v4 kw/\DT false w2 kd/\DT true w4 kw/\BtO kd/\BtO kw/\∀H',Same H H'->Q (.str (Tx (aaK 32 (shR m0 m1 m3 kd kw)))) H'
noncomputable def aq2(K:FG)(aB aD aF aH aE aA aG aI aJ:Addr):Sp:=fun vs H Q _=>∃(r L:Addr) (w0 w1 w2 w3 w4:List Nat) (m0 m1 m3:Int) (v2 v4:V) (kd kw:Option (List Mk)) (mos:List Int),vs=[.str (Tx (aaK 32 [w0,w1,w2,w3,w4])),.ref r,.ref L]/\H r=some (.lst [.int m0,.int m1,v2,.int m3,v4])/\H L=some (.lst (mos.map V.int))/\FT 0 59 w0 m0/\FT 0 23 w1 m1/\FT 1 12 w3 m3/\(0<m0/\0<m1/\0<m3)/\SV false H v2 kd/\SV true H v4 kw/\DT false w2 kd/\DT true w4 kw/\BtO kd/\BtO kw/\∀H',Same H H'->Q (.bl true) H'
noncomputable def apU(K:FG):Sp:=fun vs H Q _=>∃(a:Addr) (ns:List Int),vs=[.ref a]/\SqL K H a (ns.map V.int)/\ns.length<=63/\∀H',Q (.bl true) H'
theorem md_Last___init__{K:FG}{C f T:Addr}{od an tod:Option Addr}{sl tsl:Array (Option Value)}{oc kV dc pm cd ct:Value}{tn:Nat}{t0:Tok}(a:PySem.W.findIn K (.ref C) "__init__"=some (some (.ref f)))(i:PySem.W.isFn K (.ref f)=true)(l:K.lookup f=some ⟨oc,od,.func (PySem.W.fnOf "__init__" "Last.__init__" (abS aa9) (aaY aa9) (aaC aa9) (.ref T) kV dc pm an cd ct),sl⟩)(c:PySem.W.codeIn K cd "Last.__init__"=true)(k:PySem.W.keepIn K (.ref f)=true)(lt:K.lookup T=some ⟨.type "tuple",tod,.seq #[.int 0 t0] tn,tsl⟩):FnMD K C "__init__" "Last.__init__" aa9 ["self","back"] [.int 0]:=
 aB9 (ds:=[.int 0 t0]) a i l c k (fun s us X hl=>match us,(show us.length=2 by simpa using hl) with | [_,_],_=>PySem.W.binds_K X rfl lt rfl rfl rfl) (.cons ⟨_,rfl⟩ .nil) (fun s us X hl=>match us,(show us.length=1 by simpa using hl) with | [_],_=>PySem.W.binds_K X rfl lt rfl rfl rfl)
theorem q_MONTH_LASTS{K:FG}{a:Addr}{od:Option Addr}{sl:Array (Option Value)}{n:Nat}{t0 t1 t2 t3 t4 t5 t6 t7 t8 t9 t10 t11:Tok}(l:K.lookup a=some ⟨.type "tuple",od,.seq #[.int 31 t0,.int 28 t1,.int 31 t2,.int 30 t3,.int 31 t4,.int 30 t5,.int 31 t6,.int 31 t7,.int 30 t8,.int 31 t9,.int 30 t10,.int 31 t11] n,sl⟩):∀H,SqT K H a (([31,28,31,30,31,30,31,31,30,31,30,31]:List Int).map V.int):=fun H=>.inr ⟨_,_,_,l,rfl,rfl,(zL 12),(.cons ⟨_,rfl⟩ (.cons ⟨_,rfl⟩ (.cons ⟨_,rfl⟩ (.cons ⟨_,rfl⟩ (.cons ⟨_,rfl⟩ (.cons ⟨_,rfl⟩ (.cons ⟨_,rfl⟩ (.cons ⟨_,rfl⟩ (.cons ⟨_,rfl⟩ (.cons ⟨_,rfl⟩ (.cons ⟨_,rfl⟩ (.cons ⟨_,rfl⟩ .nil))))))))))))⟩
theorem q_BOUNDS{K:FG}{a b0 b1 b3:Addr}{ep:Nat}{t0 t1 t3:Tok}(l:K.lookup a=some ⟨.type "dict",none,.dict #[⟨0,.int 0 t0,.ref b0⟩,⟨1,.int 1 t1,.ref b1⟩,⟨3,.int 3 t3,.ref b3⟩] ep,#[]⟩):KD K a [(0,.ref b0),(1,.ref b1),(3,.ref b3)]:=by
 refine⟨_,ep,[(.inl 0,.ref b0),(.inl 1,.ref b1),(.inl 3,.ref b3)],l,(.cons ⟨rfl,rfl⟩ (.cons ⟨rfl,rfl⟩ (.cons ⟨rfl,rfl⟩ .nil))),(show ([.inl 0,.inl 1,.inl 3]:List Key).Nodup by decide),fun P w=>⟨?_,(.cons rfl rfl (.cons rfl rfl (.cons rfl rfl .nil)))⟩⟩
 intro e he
 simp only[Array.mem_toArray,aR,cB,or_false] at he
 rcases he with rfl | rfl | rfl
 ·exact⟨.inl 0,rfl,rfl⟩
 ·exact⟨.inl 1,rfl,rfl⟩
 ·exact⟨.inl 3,rfl,rfl⟩
theorem q_BOUNDS_0{K:FG}{a:Addr}{od:Option Addr}{sl:Array (Option Value)}{n:Nat}{t0 t1:Tok}(l:K.lookup a=some ⟨.type "tuple",od,.seq #[.int 0 t0,.int 59 t1] n,sl⟩):∀H,SqT K H a (([0,59]:List Int).map V.int):=fun H=>.inr ⟨_,_,_,l,rfl,rfl,(zL 2),(.cons ⟨_,rfl⟩ (.cons ⟨_,rfl⟩ .nil))⟩
theorem q_BOUNDS_1{K:FG}{a:Addr}{od:Option Addr}{sl:Array (Option Value)}{n:Nat}{t0 t1:Tok}(l:K.lookup a=some ⟨.type "tuple",od,.seq #[.int 0 t0,.int 23 t1] n,sl⟩):∀H,SqT K H a (([0,23]:List Int).map V.int):=fun H=>.inr ⟨_,_,_,l,rfl,rfl,(zL 2),(.cons ⟨_,rfl⟩ (.cons ⟨_,rfl⟩ .nil))⟩
theorem q_BOUNDS_3{K:FG}{a:Addr}{od:Option Addr}{sl:Array (Option Value)}{n:Nat}{t0 t1:Tok}(l:K.lookup a=some ⟨.type "tuple",od,.seq #[.int 1 t0,.int 12 t1] n,sl⟩):∀H,SqT K H a (([1,12]:List Int).map V.int):=fun H=>.inr ⟨_,_,_,l,rfl,rfl,(zL 2),(.cons ⟨_,rfl⟩ (.cons ⟨_,rfl⟩ .nil))⟩
theorem mg_tx{K:FG}{h:Heap}{mg:Str->Option Value}{x n:Str}{l:List Nat}{t:Tok}(X:K.In h)(G:h.Ns mainGlobals mg)(e:x=Tx l)(a:PySem.W.nsIn K mainGlobals n=some (some (.str x t))):mg n=some (.str (Tx l) t):=e▸PySem.W.mg_of X G a
theorem auI:FnScope ["year"] ["year"] (aaC anY):=fsc
theorem afY:FnScope ["year","step"] ["year","step"] (aaC ac2):=fsc
theorem sc_days_before:FnScope ["year","longs"] ["year"] (aaC af5):=fsc
theorem atZ:FnScope ["year","month"] ["year","month"] (aaC aoE):=fsc
theorem asV:FnScope ["thing"] ["thing"] (aaC amQ):=fsc
theorem avB:FnScope ["year","month","day"] ["year","month","day"] (aaC aoA):=fsc
theorem sc_day_of:FnScope ["year","month","day","ahead"] ["year","month","day"] (aaC atK):=fsc
theorem sc_year_of:FnScope ["day","year"] ["day"] (aaC aoS):=fsc
theorem sc_date_of:FnScope ["day","year","month","rest"] ["day"] (aaC aoD):=fsc
theorem avE:FnScope ["day"] ["day"] (aaC aoG):=fsc
theorem sc_kind_from:FnScope ["year","month","day","place"] ["year","month","day"] (aaC ajD):=fsc
theorem auG:FnScope ["year","month"] ["year","month"] (aaC aoL):=fsc
theorem sc_parted:FnScope ["moment","time"] ["moment"] (aaC atE):=fsc
theorem amS:FnScope ["text"] ["text"] (aaC af9):=fsc
theorem anP:FnScope ["text"] ["text"] (aaC ahZ):=fsc
theorem aFB:FnScope ["mask","number"] ["mask","number"] (aaC aDX):=fsc
theorem sc_mask_of:FnScope ["numbers","mask","number"] ["numbers"] (aaC aoX):=fsc
theorem anI:FnScope ["mask"] ["mask"] (aaC ahQ):=fsc
theorem asP:FnScope ["first","last","stride"] ["first","last","stride"] (aaC alJ):=fsc
theorem sc_read_number:FnScope ["text","low","high","number"] ["text","low","high"] (aaC agC):=fsc
theorem sc_read_run:FnScope ["text","low","high","ends"] ["text","low","high"] (aaC alF):=fsc
theorem sc_read_strided:FnScope ["run_text","stride_text","low","high","run","stride","last"] ["run_text","stride_text","low","high"] (aaC aeM):=fsc
theorem sc_read_item:FnScope ["item","low","high","parts","run"] ["item","low","high"] (aaC ajB):=fsc
theorem sc_read_field:FnScope ["text","low","high","items","mask","place","item","told"] ["text","low","high"] (aaC ag5):=fsc
theorem anS:FnScope ["day","first"] ["day","first"] (aaC ahO):=fsc
theorem atP:FnScope ["last"] ["last"] (aaC am3):=fsc
theorem sc_nearest_work:FnScope ["day","last","first","of_week"] ["day","last","first"] (aaC afE):=fsc
theorem aoZ:FnScope ["weekday","first"] ["weekday","first"] (aaC ajL):=fsc
theorem apA:FnScope ["self","last","first"] ["self","last","first"] (aaC aiZ):=fsc
theorem af0:FnScope ["self","mask"] ["self","mask"] (aaC acW):=fsc
theorem akC:FnScope ["self","last","first"] ["self","last","first"] (aaC aeU):=fsc
theorem aiG:FnScope ["self","back"] ["self","back"] (aaC aa9):=fsc
theorem apJ:FnScope ["self","last","first"] ["self","last","first"] (aaC ai6):=fsc
theorem aiD:FnScope ["self","day"] ["self","day"] (aaC aeB):=fsc
theorem ap5:FnScope ["self","last","first"] ["self","last","first"] (aaC ajN):=fsc
theorem ah1:FnScope ["self","last","first"] ["self","last","first"] (aaC aeH):=fsc
theorem afA:FnScope ["self","mask"] ["self","mask"] (aaC acQ):=fsc
theorem sc_Weekdays_days:FnScope ["self","last","first","weeks","week"] ["self","last","first"] (aaC aeE):=fsc
theorem akP:FnScope ["self","weekday","many"] ["self","weekday","many"] (aaC afD):=fsc
theorem sc_Nth_days:FnScope ["self","last","first","day"] ["self","last","first"] (aaC alB):=fsc
theorem afZ:FnScope ["self","weekday"] ["self","weekday"] (aaC acX):=fsc
theorem aj6:FnScope ["self","last","first"] ["self","last","first"] (aaC ae6):=fsc
theorem sc_any_days:FnScope ["marks","last","first","mask","mark"] ["marks","last","first"] (aaC amW):=fsc
theorem sc_read_day_mark:FnScope ["item","back","day"] ["item"] (aaC aeD):=fsc
theorem sc_read_weekday:FnScope ["text","number"] ["text"] (aaC ae7):=fsc
theorem sc_read_weekday_mark:FnScope ["item","weekday","parts","many"] ["item"] (aaC acN):=fsc
theorem sc_read_items:FnScope ["text","low","high","read_mark","items","mask","marks","place","item","plain","mark"] ["text","low","high","read_mark"] (aaC ahH):=fsc
theorem sc_read_days:FnScope ["text","read"] ["text"] (aaC aiX):=fsc
theorem sc_read_weekdays:FnScope ["text","read","mask"] ["text"] (aaC aeA):=fsc
theorem sc_month_at:FnScope ["kind","place","first"] ["kind"] (aaC alM):=fsc
theorem sc_times_of:FnScope ["hours","minutes","times","hour"] ["hours","minutes"] (aaC amX):=fsc
theorem sc_days_by:FnScope ["days","weekdays","last","first","mask","marks"] ["days","weekdays","last","first"] (aaC aoU):=fsc
theorem akI:FnScope ["self","fields"] ["self","fields"] (aaC aeX):=fsc
theorem sc_Row_days_in:FnScope ["self","kind","month"] ["self","kind"] (aaC agB):=fsc
theorem sc_read_word:FnScope ["word","place","bounds"] ["word","place"] (aaC ai7):=fsc
theorem auP:FnScope ["word","place"] ["word","place"] (aaC aoJ):=fsc
theorem sc_read_row:FnScope ["text","words"] ["text"] (aaC al3):=fsc
theorem akJ:FnScope ["_law_script","_law_k"] ["_law_script","_law_k"] (aaC afC):=fsc
theorem sc__law_stir:FnScope ["_law_number","_law_first","_law_second"] ["_law_number"] (aaC ajI):=fsc
theorem sc__law_digits:FnScope ["_law_cell","_law_sizes","_law_mixed","_law_found","_law_size"] ["_law_cell","_law_sizes","_law_mixed"] (aaC agE):=fsc
theorem sc__law_item:FnScope ["_law_way","_law_first","_law_last_here","_law_step","_law_bounds","_law_low","_law_high"] ["_law_way","_law_first","_law_last_here","_law_step","_law_bounds"] (aaC ajG):=fsc
theorem aqI:FnScope ["_law_numbers_here"] ["_law_numbers_here"] (aaC ajP):=fsc
theorem sc__law_spec:FnScope ["_law_parts","_law_week","_law_way","_law_first","_law_last_here","_law_step","_law_day","_law_text","_law_numbers_here"] ["_law_parts","_law_week"] (aaC ai8):=fsc
theorem aj3:FnScope ["_law_last_here","_law_first"] ["_law_last_here","_law_first"] (aaC ae2):=fsc
theorem sc__law_near:FnScope ["_law_day","_law_last_here","_law_first","_law_found","_law_other"] ["_law_day","_law_last_here","_law_first"] (aaC ai3):=fsc
theorem auK:FnScope ["_law_which","_law_last_here","_law_first"] ["_law_which","_law_last_here","_law_first"] (aaC anX):=fsc
theorem sc__law_days:FnScope ["_law_spec_here","_law_last_here","_law_first","_law_week","_law_word","_law_one","_law_other"] ["_law_spec_here","_law_last_here","_law_first","_law_week"] (aaC ai0):=fsc
theorem sc__law_field:FnScope ["_law_cell","_law_low","_law_high","_law_mixed","_law_wide","_law_parts","_law_texts","_law_numbers_here","_law_k","_law_way","_law_first","_law_last_here","_law_step","_law_text","_law_some"] ["_law_cell","_law_low","_law_high","_law_mixed"] (aaC ag4):=fsc
theorem sc__law_day_field:FnScope ["_law_cell","_law_week","_law_mixed","_law_parts","_law_texts","_law_specs","_law_k","_law_text","_law_spec_here"] ["_law_cell","_law_week","_law_mixed"] (aaC adL):=fsc
theorem sc__law_days_in:FnScope ["_law_row_here","_law_month","_law_last_here","_law_first","_law_found","_law_specs","_law_week","_law_spec_here"] ["_law_row_here","_law_month","_law_last_here","_law_first"] (aaC aeW):=fsc
theorem sc__law_row:FnScope ["_law_cells_here","_law_mixed","_law_minutes","_law_hours","_law_days_here","_law_months","_law_week","_law_some"] ["_law_cells_here","_law_mixed"] (aaC alK):=fsc
theorem anO:FnScope ["_law_script","_law_at"] ["_law_script","_law_at"] (aaC ahR):=fsc
theorem sc_Row_shut_by:FnScope ["self","moment","parts","date"] ["self","moment"] (aaC agP):=fsc
theorem ao3:FnScope ["_law_year"] ["_law_year"] (aaC ajT):=fsc
theorem amK:FnScope ["_law_year"] ["_law_year"] (aaC agD):=fsc
theorem aqJ:FnScope ["_law_year","_law_month"] ["_law_year","_law_month"] (aaC ajA):=fsc
theorem sc__law_date:FnScope ["_law_day","_law_rounds","_law_rest","_law_year","_law_month"] ["_law_day"] (aaC ajK):=fsc
theorem sc__law_shut:FnScope ["_law_row_here","_law_moment_here","_law_day","_law_rest","_law_year","_law_month","_law_date_here","_law_first"] ["_law_row_here","_law_moment_here"] (aaC ajM):=fsc
theorem sc__law_moment:FnScope ["_law_cell","_law_mixed","_law_far","_law_way","_law_near_here","_law_hundreds","_law_edge","_law_day","_law_time","_law_turn","_law_year","_law_moment_here"] ["_law_cell","_law_mixed"] (aaC af6):=fsc
theorem sc_starts_of:FnScope ["mask","nexts"] ["mask"] (aaC ai4):=fsc
theorem sc_end_from:FnScope ["mask","start","end"] ["mask","start"] (aaC amV):=fsc
theorem arB:FnScope ["mask"] ["mask"] (aaC ajR):=fsc
theorem alG:FnScope ["first","last"] ["first","last"] (aaC agM):=fsc
theorem akN:FnScope ["mask"] ["mask"] (aaC afG):=fsc
theorem ap4:FnScope ["self"] ["self"] (aaC aiY):=fsc
theorem aj9:FnScope ["self"] ["self"] (aaC aeT):=fsc
theorem arC:FnScope ["self"] ["self"] (aaC ai9):=fsc
theorem arK:FnScope ["self"] ["self"] (aaC ajS):=fsc
theorem aiC:FnScope ["self"] ["self"] (aaC aeI):=fsc
theorem aiN:FnScope ["self"] ["self"] (aaC aeG):=fsc
theorem atT:FnScope ["self"] ["self"] (aaC al2):=fsc
theorem ajX:FnScope ["self"] ["self"] (aaC afH):=fsc
theorem amY:FnScope ["marks"] ["marks"] (aaC agF):=fsc
theorem sc__law_ranges:FnScope ["_law_mask_here","_law_some","_law_words","_law_n","_law_last_here"] ["_law_mask_here"] (aaC agH):=fsc
theorem sc__law_gathered:FnScope ["_law_specs","_law_mask_here","_law_others","_law_spec_here"] ["_law_specs"] (aaC aeC):=fsc
theorem sc__law_text_of:FnScope ["_law_spec_here","_law_word","_law_one","_law_other"] ["_law_spec_here"] (aaC afK):=fsc
theorem alL:FnScope ["mask","low","high"] ["mask","low","high"] (aaC agI):=fsc
theorem sc_shown_plain:FnScope ["mask","place","bounds"] ["mask","place"] (aaC agK):=fsc
theorem aqW:FnScope ["self"] ["self"] (aaC ai1):=fsc
theorem sc__law_many:FnScope ["_law_parts","_law_texts","_law_specs","_law_number"] ["_law_parts"] (aaC ajJ):=fsc
theorem anG:FnScope ["_law_specs"] ["_law_specs"] (aaC ahJ):=fsc
theorem akH:FnScope ["_law_mask_here","_law_low","_law_high"] ["_law_mask_here","_law_low","_law_high"] (aaC ae9):=fsc
theorem sc__law_shown:FnScope ["_law_row_here","_law_minutes","_law_hours"] ["_law_row_here"] (aaC ag9):=fsc
theorem sc__law_good:FnScope ["_law_text","_law_row_here","_law_moments","_law_found","_law_shown_here","_law_again","_law_moment_here"] ["_law_text","_law_row_here","_law_moments"] (aaC ai5):=fsc
theorem sc_law:FnScope ["_law_script","_law_mixed","_law_moments","_law_k","_law_text","_law_row_here","_law_parts","_law_many_here","_law_specs","_law_words"] ["_law_script"] (aaC aoN):=fsc
structure Fs(K:FG)(mg:Str->Option Value)(aI aB aD aF aH aE aA aG aJ aL aK a_MONTH_LASTS a_BOUNDS a_BOUNDS_0 a_BOUNDS_1 a_BOUNDS_3:Addr)(t_ROUND_DAYS t_ROUND_YEARS t_LONG_PLACE t_DAY_MINUTES t_HOUR_MINUTES t_FIGURES t_MOST_STRIDE t_MOST_SIGNS t_MOST_ITEMS t_SATURDAY t_SUNDAY t_MOST_BACK t_MOST_DAY t_SUNDAY_TOO t_MOST_NTH t_MOST_MARKS t_ALL_WEEKDAYS t_LONG_LAST t_SHORT_YEAR t_MINUTE t_HOUR t_DAY t_MONTH t_WEEKDAY t_MOST_ROW_SIGNS t_NO_PLACE:Tok):Prop where
 c2:Cd K mg "Mark" aI
 e9:PySem.W.findIn K (.ref aI) "__init__"=some (some (.builtin "object.__init__"))
 al:Cd K mg "Numbers" aB
 ay:PySem.W.findIn K (.ref aB) "mask"=some none
 am:Cd K mg "Last" aD
 aj:PySem.W.findIn K (.ref aD) "back"=some none
 az:Cd K mg "Near" aF
 a1:PySem.W.findIn K (.ref aF) "day"=some none
 a8:Cd K mg "LastWork" aH
 d8:PySem.W.findIn K (.ref aH) "__init__"=some (some (.builtin "object.__init__"))
 ag:Cd K mg "Weekdays" aE
 au:PySem.W.findIn K (.ref aE) "mask"=some none
 av:Cd K mg "Nth" aA
 a5:PySem.W.findIn K (.ref aA) "weekday"=some none
 a9:PySem.W.findIn K (.ref aA) "many"=some none
 an:Cd K mg "LastOne" aG
 ao:PySem.W.findIn K (.ref aG) "weekday"=some none
 ac:Cd K mg "Row" aJ
 ae:PySem.W.findIn K (.ref aJ) "minute_mask"=some none
 ah:PySem.W.findIn K (.ref aJ) "hour_mask"=some none
 aw:PySem.W.findIn K (.ref aJ) "day_marks"=some none
 af:PySem.W.findIn K (.ref aJ) "month_mask"=some none
 ai:PySem.W.findIn K (.ref aJ) "weekday_marks"=some none
 bu:PySem.W.findIn K (.ref aJ) "time_mask"=some none
 a6:mg "read_weekday_mark"=some (.ref aL)
 ba:mg "read_day_mark"=some (.ref aK)
 cm:mg "MONTH_LASTS"=some (.ref a_MONTH_LASTS)
 bb:∀H,SqT K H a_MONTH_LASTS (([31,28,31,30,31,30,31,31,30,31,30,31]:List Int).map V.int)
 bd:mg "ROUND_DAYS"=some (.int 146097 t_ROUND_DAYS)
 cn:mg "ROUND_YEARS"=some (.int 400 t_ROUND_YEARS)
 be:mg "LONG_PLACE"=some (.int 12 t_LONG_PLACE)
 bc:mg "DAY_MINUTES"=some (.int 1440 t_DAY_MINUTES)
 a0:mg "HOUR_MINUTES"=some (.int 60 t_HOUR_MINUTES)
 eq:mg "FIGURES"=some (.str (Tx [48,49,50,51,52,53,54,55,56,57]) t_FIGURES)
 co:mg "MOST_STRIDE"=some (.int 99 t_MOST_STRIDE)
 bf:mg "MOST_SIGNS"=some (.int 300 t_MOST_SIGNS)
 ap:mg "MOST_ITEMS"=some (.int 40 t_MOST_ITEMS)
 d9:mg "SATURDAY"=some (.int 6 t_SATURDAY)
 bo:mg "SUNDAY"=some (.int 0 t_SUNDAY)
 df:mg "MOST_BACK"=some (.int 30 t_MOST_BACK)
 bg:mg "MOST_DAY"=some (.int 31 t_MOST_DAY)
 aq:mg "SUNDAY_TOO"=some (.int 7 t_SUNDAY_TOO)
 ea:mg "MOST_NTH"=some (.int 5 t_MOST_NTH)
 c3:mg "MOST_MARKS"=some (.int 20 t_MOST_MARKS)
 b5:mg "ALL_WEEKDAYS"=some (.int 127 t_ALL_WEEKDAYS)
 dg:mg "LONG_LAST"=some (.int 29 t_LONG_LAST)
 c4:mg "SHORT_YEAR"=some (.int 1 t_SHORT_YEAR)
 bp:mg "MINUTE"=some (.int 0 t_MINUTE)
 c5:mg "HOUR"=some (.int 1 t_HOUR)
 eb:mg "DAY"=some (.int 2 t_DAY)
 b6:mg "MONTH"=some (.int 3 t_MONTH)
 bk:mg "WEEKDAY"=some (.int 4 t_WEEKDAY)
 bq:mg "BOUNDS"=some (.ref a_BOUNDS)
 ar:KD K a_BOUNDS [(0,.ref a_BOUNDS_0),(1,.ref a_BOUNDS_1),(3,.ref a_BOUNDS_3)]
 a2:∀H,SqT K H a_BOUNDS_0 (([0,59]:List Int).map V.int)
 a3:∀H,SqT K H a_BOUNDS_1 (([0,23]:List Int).map V.int)
 a4:∀H,SqT K H a_BOUNDS_3 (([1,12]:List Int).map V.int)
 br:mg "MOST_ROW_SIGNS"=some (.int 1600 t_MOST_ROW_SIGNS)
 ec:mg "NO_PLACE"=some (.int 5 t_NO_PLACE)
 ax:mg "int"=none
 ad:mg "isinstance"=none
 e5:mg "bool"=none
 ab:mg "range"=none
 ed:mg "sum"=none
 e6:mg "all"=none
 as:mg "list"=none
 ak:mg "len"=none
 aa:mg "str"=none
 a7:mg "enumerate"=none
 bh:mg "abs"=none
 e7:mg "set"=none
 e2:mg "sorted"=none
 bs:mg "divmod"=none
 er:Fn K mg "is_long" anY ["year"]
 bl:Fn K mg "multiples_before" ac2 ["year","step"]
 cp:Fn K mg "days_before" af5 ["year"]
 es:Fn K mg "last_of" aoE ["year","month"]
 ee:Fn K mg "is_whole" amQ ["thing"]
 et:Fn K mg "is_date" aoA ["year","month","day"]
 e3:Fn K mg "day_of" atK ["year","month","day"]
 eu:Fn K mg "year_of" aoS ["day"]
 ev:Fn K mg "date_of" aoD ["day"]
 ew:Fn K mg "weekday" aoG ["day"]
 dh:Fn K mg "kind_from" ajD ["year","month","day"]
 ex:Fn K mg "kind_of" aoL ["year","month"]
 e4:Fn K mg "parted" atE ["moment"]
 cq:Fn K mg "all_figures" af9 ["text"]
 c6:Fn K mg "is_written" ahZ ["text"]
 e8:Fn K mg "has" aDX ["mask","number"]
 ey:Fn K mg "mask_of" aoX ["numbers"]
 c7:Fn K mg "numbers_in" ahQ ["mask"]
 ef:Fn K mg "run_mask" alJ ["first","last","stride"]
 cr:Fn K mg "read_number" agC ["text","low","high"]
 eg:Fn K mg "read_run" alF ["text","low","high"]
 b7:Fn K mg "read_strided" aeM ["run_text","stride_text","low","high"]
 di:Fn K mg "read_item" ajB ["item","low","high"]
 c8:Fn K mg "read_field" ag5 ["text","low","high"]
 c9:Fn K mg "weekday_at" ahO ["day","first"]
 eh:Fn K mg "all_days" am3 ["last"]
 b8:Fn K mg "nearest_work" afE ["day","last","first"]
 dj:Fn K mg "first_one" ajL ["weekday","first"]
 dk:FnM K aI "days" "Mark.days" aiZ ["self","last","first"]
 bm:FnM K aB "__init__" "Numbers.__init__" acW ["self","mask"]
 b9:FnM K aB "days" "Numbers.days" aeU ["self","last","first"]
 bv:FnMD K aD "__init__" "Last.__init__" aa9 ["self","back"] [.int 0]
 dl:FnM K aD "days" "Last.days" ai6 ["self","last","first"]
 bw:FnM K aF "__init__" "Near.__init__" aeB ["self","day"]
 dm:FnM K aF "days" "Near.days" ajN ["self","last","first"]
 bx:FnM K aH "days" "LastWork.days" aeH ["self","last","first"]
 bi:FnM K aE "__init__" "Weekdays.__init__" acQ ["self","mask"]
 bz:FnM K aE "days" "Weekdays.days" aeE ["self","last","first"]
 ca:FnM K aA "__init__" "Nth.__init__" afD ["self","weekday","many"]
 ei:FnM K aA "days" "Nth.days" alB ["self","last","first"]
 bn:FnM K aG "__init__" "LastOne.__init__" acX ["self","weekday"]
 cb:FnM K aG "days" "LastOne.days" ae6 ["self","last","first"]
 ej:Fn K mg "any_days" amW ["marks","last","first"]
 b0:Fn K mg "read_day_mark" aeD ["item"]
 cc:Fn K mg "read_weekday" ae7 ["text"]
 bj:Fn K mg "read_weekday_mark" acN ["item"]
 da:Fn K mg "read_items" ahH ["text","low","high","read_mark"]
 dn:Fn K mg "read_days" aiX ["text"]
 b1:Fn K mg "read_weekdays" aeA ["text"]
 ek:Fn K mg "month_at" alM ["kind"]
 el:Fn K mg "times_of" amX ["hours","minutes"]
 ez:Fn K mg "days_by" aoU ["days","weekdays","last","first"]
 cd:FnM K aJ "__init__" "Row.__init__" aeX ["self","fields"]
 cs:FnM K aJ "days_in" "Row.days_in" agB ["self","kind"]
 dp:Fn K mg "read_word" ai7 ["word","place"]
 e0:Fn K mg "read_at" aoJ ["word","place"]
 em:Fn K mg "read_row" al3 ["text"]
 ce:Fn K mg "_law_cell_at" afC ["_law_script","_law_k"]
 dq:Fn K mg "_law_stir" ajI ["_law_number"]
 ct:Fn K mg "_law_digits" agE ["_law_cell","_law_sizes","_law_mixed"]
 dr:Fn K mg "_law_item" ajG ["_law_way","_law_first","_law_last_here","_law_step","_law_bounds"]
 ds:Fn K mg "_law_mask" ajP ["_law_numbers_here"]
 dt:Fn K mg "_law_spec" ai8 ["_law_parts","_law_week"]
 cf:Fn K mg "_law_working" ae2 ["_law_last_here","_law_first"]
 du:Fn K mg "_law_near" ai3 ["_law_day","_law_last_here","_law_first"]
 e1:Fn K mg "_law_on" anX ["_law_which","_law_last_here","_law_first"]
 dv:Fn K mg "_law_days" ai0 ["_law_spec_here","_law_last_here","_law_first","_law_week"]
 db:Fn K mg "_law_field" ag4 ["_law_cell","_law_low","_law_high","_law_mixed"]
 bt:Fn K mg "_law_day_field" adL ["_law_cell","_law_week","_law_mixed"]
 cg:Fn K mg "_law_days_in" aeW ["_law_row_here","_law_month","_law_last_here","_law_first"]
 en:Fn K mg "_law_row" alK ["_law_cells_here","_law_mixed"]
 dc:Fn K mg "_law_cells" ahR ["_law_script","_law_at"]
 cu:FnM K aJ "shut_by" "Row.shut_by" agP ["self","moment"]
 dw:Fn K mg "_law_long" ajT ["_law_year"]
 cv:Fn K mg "_law_before" agD ["_law_year"]
 dx:Fn K mg "_law_last" ajA ["_law_year","_law_month"]
 dy:Fn K mg "_law_date" ajK ["_law_day"]
 dz:Fn K mg "_law_shut" ajM ["_law_row_here","_law_moment_here"]
 cw:Fn K mg "_law_moment" af6 ["_law_cell","_law_mixed"]
 d0:Fn K mg "starts_of" ai4 ["mask"]
 eo:Fn K mg "end_from" amV ["mask","start"]
 d1:Fn K mg "ranges_of" ajR ["mask"]
 cx:Fn K mg "shown_range" agM ["first","last"]
 ch:Fn K mg "shown_ranges" afG ["mask"]
 d2:FnM K aI "told" "Mark.told" aiY ["self"]
 ci:FnM K aB "told" "Numbers.told" aeT ["self"]
 d3:FnM K aD "told" "Last.told" ai9 ["self"]
 d4:FnM K aF "told" "Near.told" ajS ["self"]
 b2:FnM K aH "told" "LastWork.told" aeI ["self"]
 b3:FnM K aE "told" "Weekdays.told" aeG ["self"]
 ep:FnM K aA "told" "Nth.told" al2 ["self"]
 cj:FnM K aG "told" "LastOne.told" afH ["self"]
 cy:Fn K mg "shown_marks" agF ["marks"]
 cz:Fn K mg "_law_ranges" agH ["_law_mask_here"]
 b4:Fn K mg "_law_gathered" aeC ["_law_specs"]
 ck:Fn K mg "_law_text_of" afK ["_law_spec_here"]
 c0:Fn K mg "shown_field" agI ["mask","low","high"]
 c1:Fn K mg "shown_plain" agK ["mask","place"]
 d5:FnM K aJ "shown" "Row.shown" ai1 ["self"]
 d6:Fn K mg "_law_many" ajJ ["_law_parts"]
 dd:Fn K mg "_law_marks" ahJ ["_law_specs"]
 cl:Fn K mg "_law_numbers" ae9 ["_law_mask_here","_law_low","_law_high"]
 de:Fn K mg "_law_shown" ag9 ["_law_row_here"]
 d7:Fn K mg "_law_good" ai5 ["_law_text","_law_row_here","_law_moments"]
section
set_option maxHeartbeats 4000000
variable{P:Program}{w:World}{K:FG}{mg:Str->Option Value}{base:Heap}{aI aB aD aF aH aE aA aG aJ aL aK a_MONTH_LASTS a_BOUNDS a_BOUNDS_0 a_BOUNDS_1 a_BOUNDS_3:Addr}{t_ROUND_DAYS t_ROUND_YEARS t_LONG_PLACE t_DAY_MINUTES t_HOUR_MINUTES t_FIGURES t_MOST_STRIDE t_MOST_SIGNS t_MOST_ITEMS t_SATURDAY t_SUNDAY t_MOST_BACK t_MOST_DAY t_SUNDAY_TOO t_MOST_NTH t_MOST_MARKS t_ALL_WEEKDAYS t_LONG_LAST t_SHORT_YEAR t_MINUTE t_HOUR t_DAY t_MONTH t_WEEKDAY t_MOST_ROW_SIGNS t_NO_PLACE:Tok}(ZZ:Fs K mg aI aB aD aF aH aE aA aG aJ aL aK a_MONTH_LASTS a_BOUNDS a_BOUNDS_0 a_BOUNDS_1 a_BOUNDS_3 t_ROUND_DAYS t_ROUND_YEARS t_LONG_PLACE t_DAY_MINUTES t_HOUR_MINUTES t_FIGURES t_MOST_STRIDE t_MOST_SIGNS t_MOST_ITEMS t_SATURDAY t_SUNDAY t_MOST_BACK t_MOST_DAY t_SUNDAY_TOO t_MOST_NTH t_MOST_MARKS t_ALL_WEEKDAYS t_LONG_LAST t_SHORT_YEAR t_MINUTE t_HOUR t_DAY t_MONTH t_WEEKDAY t_MOST_ROW_SIGNS t_NO_PLACE)
include ZZ
theorem amC:Df P w K mg base "is_long" 1 ["year"] (auW K):=by
 refine ZZ.er.dfs auI (fun vs H Q E h=>?_) (fun f cdv A outer s H vs Q E hr h=>?_)
 ·obtain⟨_,rfl,_⟩:=h
  rfl
 obtain⟨y,rfl,q⟩:=h
 refine⟨_,(ss1 (aaE (axR (ad2 oEq (eOp aa7 (v_ 0) eI) eI) (anD (eOr (ad2 oNe (eOp aa7 (v_ 0) eI) eI) (anD (ad2 oEq (eOp aa7 (v_ 0) eI) eI))))))),?_⟩
 refine⟨_,rfl,_,_,rfl,rfl,(by show (0:Int)<4;decide),rfl,_,rfl,?_⟩
 refine ifI (fun c1=>?_) (fun c1=>?_)
 ·refine⟨_,rfl,_,_,rfl,rfl,(by show (0:Int)<100;decide),rfl,_,rfl,?_⟩
  refine aI3 (fun c2=>?_) (fun c2=>?_)
  ·rw[ahF ⟨c1,.inl c2⟩] at q
   exact q
  ·refine⟨_,rfl,_,_,rfl,rfl,(by show (0:Int)<400;decide),rfl,?_⟩
   by_cases c3:y%400=0
   ·rw[ahF ⟨c1,.inr c3⟩] at q
    show Q (.bl (decide (V.int (y%400)=V.int 0))) H
    rw[dU (int_eq.mpr c3)]
    exact q
   ·rw[ag3 (by omega)] at q
    show Q (.bl (decide (V.int (y%400)=V.int 0))) H
    rw[dY fun e=>c3 (int_eq.mp e)]
    exact q
 ·rw[ag3 (by omega)] at q
  exact q
theorem abW:Df P w K mg base "multiples_before" 1 ["year","step"] (af1 K):=by
 refine ZZ.bl.dfs afY (fun vs H Q E h=>?_) (fun f cdv A outer s H vs Q E hr h=>?_)
 ·obtain⟨_,_,rfl,_⟩:=h
  rfl
 obtain⟨y,z,rfl,hz,q⟩:=h
 refine⟨_,(ss1 (aaE (eOp aeQ (eOp abP (eOp aaM (v_ 0) (v_ 1)) eI) (v_ 1)))),?_⟩
 refine⟨_,rfl,_,rfl,_,_,rfl,rfl,_,_,rfl,rfl,_,rfl,_,_,rfl,rfl,hz,?_⟩
 exact q
theorem ac8:Df P w K mg base "days_before" 2 ["year"] (amM K):=by
 refine ZZ.cp.dfs sc_days_before (fun vs H Q E h=>?_) (fun f cdv A outer s H vs Q E hr h=>?_)
 ·obtain⟨_,rfl,_⟩:=h
  rfl
 obtain⟨y,rfl,q⟩:=h
 refine⟨_,(ssC (aaJ 1 (eOp aaM (eOp abP (eD (abW ZZ) hr (aC (v_ 0) (aC eI aN))) (eD (abW ZZ) hr (aC (v_ 0) (aC eI aN)))) (eD (abW ZZ) hr (aC (v_ 0) (aC eI aN)))) sc_days_before.nd)
   (ss1 (aaE (eOp aaM (eOp adR eI (v_ 0)) (v_ 1))))),?_⟩
 refine⟨_,rfl,_,_,rfl,⟨by decide,by decide⟩,_,rfl,_,_,rfl,⟨by decide,by decide⟩,_,_,rfl,rfl,_,rfl,_,_,rfl,⟨by decide,by decide⟩,_,_,rfl,rfl,?_⟩
 refine⟨_,rfl,_,_,rfl,rfl,.inl ⟨by decide,by decide⟩,_,rfl,_,_,rfl,rfl,?_⟩
 exact q
theorem ac0:Df P w K mg base "last_of" 2 ["year","month"] (at6 K):=by
 refine ZZ.es.dfs atZ (fun vs H Q E h=>?_) (fun f cdv A outer s H vs Q E hr h=>?_)
 ·obtain⟨_,_,rfl,_⟩:=h
  rfl
 obtain⟨y,m,rfl,⟨h1,h2⟩,q⟩:=h
 refine⟨_,(ssC (sIf (tW (aqU (tCm oEq (v_ 1) eI) (ajE (tVa (eD (amC ZZ) hr (aC (v_ 0) aN)))))) (ss1 (aaE eI)) ssN)
   (ss1 (aaE (eIx xT (eGl (v:=.ref a_MONTH_LASTS) ZZ.cm rfl) (eOp abP (v_ 1) eI))))),?_⟩
 refine⟨_,rfl,rfl,_,rfl,?_⟩
 refine ifI (fun c1=>?_) (fun c1=>?_)
 ·refine⟨_,rfl,_,rfl,_,rfl,?_⟩
  by_cases c2:abG y=true
  ·have e:aaF y m=29:=by unfold aaF ac4;rw[if_pos c1,if_pos c2];rfl
   rw[e] at q
   show if abG y=true then _ else _
   rw[if_pos c2]
   exact q
  ·have e:aaF y m=lasts.getD (m-1).toNat 0:=by unfold aaF ac4;rw[if_pos c1,if_neg c2,c1];rfl
   rw[e] at q
   show if abG y=true then _ else _
   rw[if_neg c2]
   refine⟨_,rfl,_,_,rfl,rfl,a_MONTH_LASTS,_,_,_,rfl,rfl,ZZ.bb H,alZ h1 h2,?_⟩
   exact q
 ·have e:aaF y m=lasts.getD (m-1).toNat 0:=by unfold aaF;rw[if_neg c1]
  rw[e] at q
  refine aaX ?_
  refine⟨_,rfl,_,_,rfl,rfl,a_MONTH_LASTS,_,_,_,rfl,rfl,ZZ.bb H,alZ h1 h2,?_⟩
  exact q
theorem aeV:Df P w K mg base "is_whole" 1 ["thing"] (arW K):=by
 refine ZZ.ee.dfs asV (fun vs H Q E h=>?_) (fun f cdv A outer s H vs Q E hr h=>?_)
 ·obtain⟨_,rfl,_⟩:=h
  rfl
 obtain⟨i,rfl,q⟩:=h
 refine⟨_,(ss1 (aaE (axR (eCB cII ZZ.ad PyProof.Rows.boot_isinstance (aC (v_ 0) (aC (eTy ZZ.ax PyProof.Rows.boot_int) aN))) (anD (eNot (eCB cIB ZZ.ad PyProof.Rows.boot_isinstance (aC (v_ 0) (aC (eTy ZZ.e5 PyProof.Rows.boot_bool) aN)))))))),?_⟩
 refine⟨_,rfl,_,rfl,_,rfl,?_⟩
 refine abH ?_
 refine⟨_,rfl,_,rfl,_,rfl,?_⟩
 exact q
theorem at8:Df P w K mg base "is_date" 3 ["year","month","day"] (avL K):=by
 refine ZZ.et.dfs avB (fun vs H Q E h=>?_) (fun f cdv A outer s H vs Q E hr h=>?_)
 ·obtain⟨_,_,_,rfl,_⟩:=h
  rfl
 obtain⟨y,m,k,rfl,⟨hm,k1,k2⟩,q⟩:=h
 refine⟨_,(ssC (sIf (tNo (tW (aqU (tVa (eD (aeV ZZ) hr (aC (v_ 0) aN))) (aqU (tVa (eD (aeV ZZ) hr (aC (v_ 1) aN))) (ajE (tVa (eD (aeV ZZ) hr (aC (v_ 2) aN)))))))) (ss1 (aaE eB)) ssN)
   (ss1 (aaE (axR (eCh oLe oLe eI (v_ 1) eI) (anD (eCh oLe oLe eI (v_ 2) (eD (ac0 ZZ) hr (aC (v_ 0) (aC (v_ 1) aN))))))))),?_⟩
 refine⟨_,rfl,_,rfl,_,rfl,abH ⟨_,rfl,_,rfl,_,rfl,abH ⟨_,rfl,_,rfl,_,rfl,aaX ?_⟩⟩⟩
 refine⟨_,rfl,_,_,rfl,rfl,_,rfl,?_⟩
 rw[dU hm.1]
 refine abH ⟨_,_,rfl,rfl,_,rfl,?_⟩
 rw[dU hm.2]
 refine abH ⟨_,rfl,_,_,rfl,rfl,_,rfl,?_⟩
 rw[dU k1]
 refine abH ⟨_,rfl,_,rfl,_,_,rfl,hm,_,_,rfl,rfl,?_⟩
 show Q (.bl (decide (k<=aaF y m))) H
 rw[dU k2]
 exact q
theorem axM:Df P w K mg base "day_of" 4 ["year","month","day"] (axP K):=by
 refine ZZ.e3.dfs sc_day_of (fun vs H Q E h=>?_) (fun f cdv A outer s H vs Q E hr h=>?_)
 ·obtain⟨_,_,_,rfl,_⟩:=h
  rfl
 obtain⟨y,m,k,rfl,hv,q⟩:=h
 refine⟨_,(ssC (sIf (tNo (tVa (eD (at8 ZZ) hr (aC (v_ 0) (aC (v_ 1) (aC (v_ 2) aN)))))) (ss1 arL) ssN)
   (ssC (aaJ 3 (eCB aH8 ZZ.ed PyProof.Rows.boot_sum (aC (acD ["year"] [0] (iR2 ZZ.ab (aC eI (aC (v_ 1) aN))) (fun _ _ _ _ _ _=>fsN) (fun _ _ _ _ _ _=>(eD (ac0 ZZ) hr (aC (v_ 1) (aC (v_ 0) aN))))) aN)) sc_day_of.nd)
   (ss1 (aaE (eOp abP (eOp aaM (eOp aaM (eD (ac8 ZZ) hr (aC (v_ 0) aN)) (v_ 3)) (v_ 2)) eI))))),?_⟩
 obtain⟨⟨hm1,hm2⟩,hk⟩:=id hv
 refine⟨_,rfl,_,rfl,_,rfl,_,_,_,rfl,hv,_,rfl,aaX ?_⟩
 refine⟨_,rfl,_,_,rfl,⟨by decide,by decide,by omega,by omega⟩,aa6 (fun i l=>l=(List.range i).map fun i:Nat=>V.int (aaF y (1+(i:Int)))) (by show (m-1).toNat<=sizeLine;rw[dQ];omega) rfl ?_ ?_⟩
 ·intro i l D H2 E' F' hi hR hD s2 hl hE hF
  subst hR
  exact⟨_,rfl,_,rfl,_,_,rfl,⟨by omega,by omega⟩,hE _ _ (Same.refl _) (aoV _ _).symm⟩
 ·intro D H2 l hR hD s2 hl
  subst hR
  refine⟨D,(List.range (m-1).toNat).map fun i:Nat=>aaF y (1+(i:Int)),rfl,SqL.of (by rw[hl,bM];rfl),?_⟩
  refine⟨_,rfl,_,rfl,_,rfl,_,_,rfl,rfl,_,rfl,_,_,rfl,rfl,_,_,rfl,rfl,?_⟩
  have e:((List.range (m-1).toNat).map fun i:Nat=>aaF y (1+(i:Int))).sum=ahead y m:=avY y _
  rw[e]
  exact q _ s2
theorem auT:Df P w K mg base "year_of" 3 ["day"] (au9 K):=by
 refine ZZ.eu.dfs sc_year_of (fun vs H Q E h=>?_) (fun f cdv A outer s H vs Q E hr h=>?_)
 ·obtain⟨_,rfl,_⟩:=h
  rfl
 obtain⟨d,rfl,q⟩:=h
 refine⟨_,(ssC (aaJ 1 (eOp aaM (eOp adR (eOp aeQ (v_ 0) (eGl (v:=.int 146097) ZZ.bd ⟨_,rfl⟩)) (eGl (v:=.int 400) ZZ.cn ⟨_,rfl⟩)) (eOp aeQ (eOp aa7 (v_ 0) (eGl (v:=.int 146097) ZZ.bd ⟨_,rfl⟩)) eI)) sc_year_of.nd)
   (ssC (sWh (tCm oLe (eD (ac8 ZZ) hr (aC (eOp aaM (v_ 1) eI) aN)) (v_ 0)) (ss1 (aaJ 1 (eOp aaM (v_ 1) eI) sc_year_of.nd)) PassesOwn.never)
   (ss1 (aaE (v_ 1))))),?_⟩
 refine⟨_,rfl,_,_,rfl,rfl,⟨by decide,by decide⟩,_,_,rfl,rfl,.inr ⟨by decide,by decide⟩,_,rfl,_,_,rfl,rfl,(by show (0:Int)<146097;decide),_,_,rfl,rfl,⟨by decide,by decide⟩,_,_,rfl,rfl,?_⟩
 refine acU (fun σ H'=>H'=H/\∃y:Int,σ=[some (.int d),some (.int y)]/\db y<=d) (fun σ _=>match σ with | [_,some (.int y)]=>(d-db y).toNat | _=>0) ?_ ?_
 ·refine⟨rfl,_,rfl,?_⟩
  have h1:=az0 (q:=d / 146097) (z:=d%146097 / 366) (by omega)
  omega
 ·rintro σ H' ⟨rfl,y,rfl,hy⟩
  refine⟨_,rfl,_,_,rfl,rfl,_,rfl,_,rfl,_,_,rfl,rfl,_,rfl,?_⟩
  refine ifD (fun c=>?_) (fun c=>?_)
  ·refine⟨_,fun _ _ h=>h,?_⟩
   refine⟨_,rfl,_,_,rfl,rfl,?_⟩
   have h1:=ag8 y
   have h2:=amE y
   exact⟨_,(by show (d-db (y+1)).toNat<(d-db y).toNat;omega),rfl,rfl,_,rfl,c⟩
  ·exact⟨_,rfl,q y hy (by omega)⟩
theorem auQ:Df P w K mg base "date_of" 4 ["day"] (au8 K):=by
 refine ZZ.ev.dfs sc_date_of (fun vs H Q E h=>?_) (fun f cdv A outer s H vs Q E hr h=>?_)
 ·obtain⟨_,rfl,_⟩:=h
  rfl
 obtain⟨d,rfl,q⟩:=h
 refine⟨_,(ssC (aaJ 1 (eD (auT ZZ) hr (aC (v_ 0) aN)) sc_date_of.nd)
   (ssC (aaJ 2 eI sc_date_of.nd)
   (ssC (aaJ 3 (eOp abP (v_ 0) (eD (ac8 ZZ) hr (aC (v_ 1) aN))) sc_date_of.nd)
   (ssC (sWh (tCm oGe (v_ 3) (eD (ac0 ZZ) hr (aC (v_ 1) (aC (v_ 2) aN)))) (ssC (aaJ 3 (eOp abP (v_ 3) (eD (ac0 ZZ) hr (aC (v_ 1) (aC (v_ 2) aN)))) sc_date_of.nd)
   (ss1 (aaJ 2 (eOp aaM (v_ 2) eI) sc_date_of.nd))) PassesOwn.never)
   (ss1 (aaE (aa5 (aC (v_ 1) (aC (v_ 2) (aC (eOp aaM (v_ 3) eI) aN)))))))))),?_⟩
 refine⟨_,rfl,_,rfl,fun y hy1 hy2=>?_⟩
 refine⟨_,rfl,_,rfl,_,rfl,_,_,rfl,rfl,?_⟩
 refine acU (fun σ H'=>H'=H/\∃m r:Int,σ=[some (.int d),some (.int y),some (.int m),some (.int r)]/\(1<=m/\m<=12)/\0<=r/\db y+ahead y m+r=d) (fun σ _=>match σ with | [_,_,some (.int m),_]=>(13-m).toNat | _=>0) ?_ ?_
 ·have a4:ahead y 1=0:=rfl
  exact⟨rfl,1,_,rfl,⟨by decide,by decide⟩,by omega,by omega⟩
 ·rintro σ H' ⟨rfl,m,r,rfl,hm,hr0,he⟩
  refine⟨_,rfl,_,rfl,_,rfl,_,_,rfl,hm,_,_,rfl,rfl,_,rfl,?_⟩
  have a1:=agV (y:=y) hm.1
  refine ifD (fun c=>?_) (fun c=>?_)
  ·have a2:=am0 y
   have a3:=ag8 y
   have hm12:m<12:=by
    rcases Int.lt_or_le m 12 with z | z
    ·exact z
    ·have e12:m=12:=by omega
     subst e12
     have a5:ahead y (12+1)=ahead y 13:=rfl
     omega
   refine⟨_,fun _ _ h=>h,?_⟩
   refine⟨_,rfl,_,rfl,_,rfl,_,_,rfl,hm,_,_,rfl,rfl,?_⟩
   refine⟨_,rfl,_,_,rfl,rfl,?_⟩
   exact⟨_,(by show (13-(m+1)).toNat<(13-m).toNat;omega),rfl,rfl,m+1,r-aaF y m,rfl,⟨by omega,by omega⟩,by omega,by omega⟩
  ·refine⟨_,rfl,_,rfl,_,rfl,_,_,rfl,rfl,(zL 3),fun p hp=>?_⟩
   exact q y m (r+1) p _ ⟨hm,by omega,by omega⟩ (by unfold adB;omega) (aaB hp _) aaA
theorem avN:Df P w K mg base "weekday" 1 ["day"] (avP K):=by
 refine ZZ.ew.dfs avE (fun vs H Q E h=>?_) (fun f cdv A outer s H vs Q E hr h=>?_)
 ·obtain⟨_,rfl,_⟩:=h
  rfl
 obtain⟨d,rfl,q⟩:=h
 refine⟨_,(ss1 (aaE (eOp aa7 (eOp aaM (v_ 0) eI) eI))),?_⟩
 exact⟨_,rfl,_,_,rfl,rfl,_,_,rfl,rfl,(by show (0:Int)<7;decide),q⟩
theorem apZ:Df P w K mg base "kind_from" 2 ["year","month","day"] (aqZ K):=by
 refine ZZ.dh.dfs sc_kind_from (fun vs H Q E h=>?_) (fun f cdv A outer s H vs Q E hr h=>?_)
 ·obtain⟨_,_,_,rfl,_⟩:=h
  rfl
 obtain⟨y,m,d,rfl,q⟩:=h
 refine⟨_,(ssC (aaJ 3 (eIf (tW (aqU (tCm oEq (v_ 1) eI) (ajE (tVa (eD (amC ZZ) hr (aC (v_ 0) aN)))))) (eGl (v:=.int 12) ZZ.be ⟨_,rfl⟩) (eOp abP (v_ 1) eI)) sc_kind_from.nd)
   (ss1 (aaE (eOp aaM (eOp adR eI (v_ 3)) (eD (avN ZZ) hr (aC (v_ 2) aN)))))),?_⟩
 have q':∀pl:Int,plc y m=pl->Q (.int (7*pl+(d+6)%7)) H:=fun pl e=>by
  rw[←e]
  exact q
 refine⟨_,rfl,rfl,_,rfl,?_⟩
 refine ifI (fun c1=>⟨_,rfl,_,rfl,_,rfl,?_⟩) (fun c1=>aaX ?_)
 ·by_cases c2:abG y=true
  ·show if abG y=true then _ else _
   rw[if_pos c2]
   exact⟨_,rfl,_,_,rfl,rfl,.inl ⟨by decide,by decide⟩,_,rfl,_,rfl,_,_,rfl,rfl,q' _ (by unfold plc;rw[if_pos ⟨c1,c2⟩])⟩
  ·show if abG y=true then _ else _
   rw[if_neg c2]
   exact⟨_,rfl,_,_,rfl,rfl,_,rfl,_,_,rfl,rfl,.inl ⟨by decide,by decide⟩,_,rfl,_,rfl,_,_,rfl,rfl,q' _ (by unfold plc;rw[if_neg fun z=>c2 z.2])⟩
 ·exact⟨_,rfl,_,_,rfl,rfl,_,rfl,_,_,rfl,rfl,.inl ⟨by decide,by decide⟩,_,rfl,_,rfl,_,_,rfl,rfl,q' _ (by unfold plc;rw[if_neg fun z=>c1 z.1])⟩
theorem auA:Df P w K mg base "kind_of" 5 ["year","month"] (avJ K):=by
 refine ZZ.ex.dfs auG (fun vs H Q E h=>?_) (fun f cdv A outer s H vs Q E hr h=>?_)
 ·obtain⟨_,_,rfl,_⟩:=h
  rfl
 obtain⟨y,m,rfl,hm,q⟩:=h
 refine⟨_,(ss1 (aaE (eD (apZ ZZ) hr (aC (v_ 0) (aC (v_ 1) (aC (eD (axM ZZ) hr (aC (v_ 0) (aC (v_ 1) (aC eI aN)))) aN)))))),?_⟩
 have hl1:1<=aaF y m:=by have:=aoT (y:=y) hm.1 hm.2;omega
 have e6:db y+ahead y m+1-1+6=db y+ahead y m+6:=by omega
 refine⟨_,rfl,_,rfl,_,rfl,_,rfl,_,_,_,rfl,⟨hm,by decide,hl1⟩,fun H' s'=>⟨_,_,_,rfl,?_⟩⟩
 rw[e6]
 exact q H' s'
theorem axI:Df P w K mg base "parted" 1 ["moment"] (ayD K):=by
 refine ZZ.e4.dfs sc_parted (fun vs H Q E h=>?_) (fun f cdv A outer s H vs Q E hr h=>?_)
 ·obtain⟨_,rfl,_⟩:=h
  rfl
 obtain⟨mo,rfl,q⟩:=h
 refine⟨_,(ssC (aaJ 1 (eOp aa7 (v_ 0) (eGl (v:=.int 1440) ZZ.bc ⟨_,rfl⟩)) sc_parted.nd)
   (ss1 (aaE (aa5 (aC (eOp aeQ (v_ 0) (eGl (v:=.int 1440) ZZ.bc ⟨_,rfl⟩)) (aC (eOp aeQ (v_ 1) (eGl (v:=.int 60) ZZ.a0 ⟨_,rfl⟩)) (aC (eOp aa7 (v_ 1) (eGl (v:=.int 60) ZZ.a0 ⟨_,rfl⟩)) aN))))))),?_⟩
 refine⟨_,rfl,_,_,rfl,rfl,(by show (0:Int)<1440;decide),?_⟩
 exact⟨_,rfl,_,_,rfl,rfl,⟨by decide,by decide⟩,_,rfl,_,_,rfl,rfl,⟨by decide,by decide⟩,_,rfl,_,_,rfl,rfl,(by show (0:Int)<60;decide),(zL 3),fun p hp=>q p _ (aaB hp _) aaA⟩
theorem amL:Df P w K mg base "all_figures" 1 ["text"] (amF K):=by
 refine ZZ.cq.dfs amS (fun vs H Q E h=>?_) (fun f cdv A outer s H vs Q E hr h=>?_)
 ·obtain⟨_,rfl,_⟩:=h
  rfl
 obtain⟨l,rfl,hl,q⟩:=h
 refine⟨_,(ss1 (aaE (axR (ad2 oNe (v_ 0) (eSx [])) (anD (eCB cAll ZZ.e6 boot_all (aC (acD [] [] (iX (v_ 0)) (fun _ _ _ _ _ _=>fsN) (fun _ _ _ _ _ _=>(ad2 oInX (v_ 0) (eGl (v:=.str (Tx [48,49,50,51,52,53,54,55,56,57])) ZZ.eq ⟨_,rfl⟩)))) aN)))))),?_⟩
 refine⟨_,rfl,rfl,_,rfl,?_⟩
 rw[ay6 l []]
 by_cases c:l=[]
 ·rw[dU c]
  have e:aqH l=false:=by unfold aqH;rw[dU c];rfl
  rw[e] at q
  exact aaX (q H (Same.refl H))
 ·rw[dY c]
  have e:aqH l=l.all agL:=by unfold aqH;rw[dY c];rfl
  rw[e] at q
  refine abH ⟨_,rfl,Tx l,rfl,azO (xs:=l) (fun i z=>z=((l.take i).map agL).map V.bl) (by rw[dQ];omega) rfl ?_ ?_⟩
  ·intro i ch z D H2 E' F' hv hR hD s2 hz hE hF
   subst hR
   refine⟨_,rfl,ch,aER,rfl,rfl,?_⟩
   rw[az2]
   exact hE _ _ (Same.refl _) (by rw[bI,hv,aT,aT];rfl)
  ·intro D H2 z hR hD s2 hz
   subst hR
   rw[bQ] at hz
   refine⟨D,l.map agL,rfl,SqL.of hz,?_⟩
   rw[List.all_map]
   exact q H2 s2
theorem agG:Df P w K mg base "is_written" 2 ["text"] (anM K):=by
 refine ZZ.c6.dfs anP (fun vs H Q E h=>?_) (fun f cdv A outer s H vs Q E hr h=>?_)
 ·obtain⟨_,rfl,_⟩:=h
  rfl
 obtain⟨l,rfl,hl,q⟩:=h
 refine⟨_,(ss1 (aaE (axR (eD (amL ZZ) hr (aC (v_ 0) aN)) (anD (eOr (ad2 oEq (v_ 0) (eSx [48])) (anD (ad2 oNe (eIx xX (v_ 0) eI) (eSx [48])))))))),?_⟩
 refine⟨_,rfl,l,rfl,hl,fun H1 s1=>⟨_,rfl,?_⟩⟩
 refine if2 (fun c=>?_) (fun c=>?_)
 ·have hne:l≠[]:=fun e=>by
   unfold aqH at c
   rw[dU e] at c
   exact absurd (show false=true from c) aW
  refine⟨_,rfl,rfl,_,rfl,?_⟩
  rw[ay6 l [48]]
  by_cases c2:l=[48]
  ·rw[dU c2]
   have e:isW l=true:=by unfold isW;rw[c,dU c2];rfl
   rw[e] at q
   exact abH (q H1 s1)
  ·rw[dY c2]
   obtain⟨x,r,rfl⟩:∃x r,l=x::r:=by
    cases l with
    |nil=>exact absurd rfl hne
    |cons x r=>exact⟨x,r,rfl⟩
   refine aaX ⟨_,rfl,x::r,0,x,rfl,rfl,(by rw[dQ];omega),(show atI (x::r) ((0:Nat):Int)=some x from afR rfl),rfl,?_⟩
   rw[ay6 [x] [48]]
   have e:isW (x::r)= !decide ([x]=[48]):=by
    unfold isW
    rw[c,dY c2]
    show (!decide (x=48))=_
    rw[decide_eq_decide.mpr (show x=48↔[x]=[48] by simp)]
   rw[e] at q
   exact q H1 s1
 ·have e:isW l=false:=by unfold isW;rw[c];rfl
  rw[e] at q
  exact q H1 s1
theorem ad3:Df P w K mg base "has" 1 ["mask","number"] (aD7 K):=by
 refine ZZ.e8.dfs aFB (fun vs H Q E h=>?_) (fun f cdv A outer s H vs Q E hr h=>?_)
 ·obtain⟨_,_,rfl,_⟩:=h
  rfl
 obtain⟨m,n,rfl,h0,q⟩:=h
 refine⟨_,(ss1 (aaE (ad2 oEq (eOp akF (eOp alD (v_ 0) (v_ 1)) eI) eI))),?_⟩
 refine⟨_,rfl,_,rfl,_,_,rfl,rfl,h0.2,_,_,rfl,rfl,rfl,?_⟩
 have e:decide (V.int (Builtin.bitAnd (m / 2^n.toNat) 1)=V.int 1)=tb m n.toNat:=by
  rw[←aCP h0.1]
  exact decide_eq_decide.mpr int_eq
 show Q (.bl (decide (V.int (Builtin.bitAnd (m / 2^n.toNat) 1)=V.int 1))) H
 rw[e]
 exact q
theorem avK:Df P w K mg base "mask_of" 1 ["numbers"] (at9 K):=by
 refine ZZ.ey.dfs sc_mask_of (fun vs H Q E h=>?_) (fun f cdv A outer s H vs Q E hr h=>?_)
 ·obtain⟨_,_,rfl,_⟩:=h
  rfl
 obtain⟨a,zs,rfl,hS,hz,q⟩:=h
 refine⟨_,(ssC (aaJ 1 eI sc_mask_of.nd)
   (ssC (aeK (iL (v_ 0)) (gN 2 sc_mask_of.nd) (ss1 (aaJ 1 (eOp oOr (v_ 1) (eOp af4 eI (v_ 2))) sc_mask_of.nd)) PassesOwn.never)
   (ss1 (aaE (v_ 1))))),?_⟩
 refine⟨_,rfl,a,rfl,⟨_,hS⟩,abT (K:=K) (a:=a) (xs:=zs.map V.int) (fun i σ H2=>H2=H/\∃u:Option V,σ=[some (.ref a),some (.int (aa3 (zs.take i))),u]) ⟨rfl,_,rfl⟩ (fun i σ H2 _ hP=>by rw[hP.1];exact hS) ?_ ?_⟩
 ·rintro i x σ H2 hx ⟨rfl,u,rfl⟩
  rw[aY] at hx
  cases ez:zs[i]? with
  |none=>rw[ez] at hx;cases hx
  |some z=>
   rw[ez] at hx
   obtain rfl:V.int z=x:=a8 hx
   have h:=hz z (bH ez)
   have et:aa3 (zs.take (i+1))=Builtin.bitOr (aa3 (zs.take i)) (1*2^z.toNat):=by
    rw[bI,ez,←alP]
    rfl
   exact⟨_,rfl,_,rfl,_,_,rfl,rfl,⟨h.1,by omega,by decide⟩,_,_,rfl,rfl,rfl,_,by rw[et];rfl⟩
 ·rintro σ H2 ⟨rfl,u,rfl⟩
  rw[aM,bQ]
  exact⟨_,rfl,q⟩
theorem anN:Df P w K mg base "numbers_in" 2 ["mask"] (anF K):=by
 refine ZZ.c7.dfs anI (fun vs H Q E h=>?_) (fun f cdv A outer s H vs Q E hr h=>?_)
 ·obtain⟨_,rfl,_⟩:=h
  rfl
 obtain⟨m,rfl,hm,q⟩:=h
 refine⟨_,(ss1 (aaE (acD ["mask"] [0] (iR1 ZZ.ab (aC (eBL (v_ 0)) aN)) (fun _ _ _ _ _ _=>(fs1 (tVa (eD (ad3 ZZ) hr (aC (v_ 1) (aC (v_ 0) aN)))))) (fun _ _ _ _ _ _=>(v_ 0))))),?_⟩
 refine⟨_,rfl,rfl,_,rfl,rfl,_,rfl,by omega,by omega,aa6 (fun i z=>z=(flt (tb m) 0 i).map V.int) (by rw[dQ,bP];omega) ao7 ?_ ?_⟩
 ·intro i z D H2 E' F' hi hR hD s2 hz hE hF
  subst hR
  refine⟨_,rfl,_,rfl,_,_,rfl,⟨hm.1,by omega⟩,_,rfl,?_⟩
  have e0:(0+(i:Int)).toNat=i:=by omega
  show if tb m (0+(i:Int)).toNat=true then _ else _
  rw[e0]
  by_cases c:tb m i=true
  ·rw[if_pos c]
   exact⟨_,rfl,hE _ _ (Same.refl _) (by rw[afQ c,aT];rfl)⟩
  ·rw[if_neg c]
   exact hF _ (Same.refl _) (by rw[agU (by simpa using c)])
 ·intro D H2 z hR hD s2 hz
  subst hR
  rw[bP] at hz
  exact q D H2 s2 hz
theorem afN:Df P w K mg base "run_mask" 2 ["first","last","stride"] (ar3 K):=by
 refine ZZ.ef.dfs asP (fun vs H Q E h=>?_) (fun f cdv A outer s H vs Q E hr h=>?_)
 ·obtain⟨_,_,_,rfl,_⟩:=h
  rfl
 obtain⟨a,b,st,rfl,ha,hb,hs,q⟩:=h
 refine⟨_,(ss1 (aaE (eD (avK ZZ) hr (aC (eCT cLR ZZ.as PyProof.Rows.boot_list (aC (eCT aA0 ZZ.ab dW (aC (v_ 0) (aC (eOp aaM (v_ 1) eI) (aC (v_ 2) aN)))) aN)) aN)))),?_⟩
 obtain⟨n1,n2⟩:=acR ha.1 hb.2 hs.1
 have bd:∀z∈ab4 a b st,0<=z/\z<=100000:=fun z hz=>by
  have:=(ahA hs.1).mp hz
  omega
 refine⟨_,rfl,_,rfl,_,_,rfl,rfl,_,rfl,_,_,_,rfl,⟨hs.1,by omega⟩,fun p hp=>⟨p,a,b+1,st,(Builtin.Range.rangeSize a (b+1) st).toNat,rfl,aaA,acH ha.1 ha.2 hb.1 hb.2 hs.1 hs.2,n2,(by omega),fun l hl=>⟨l,ab4 a b st,rfl,SqL.of (by rw[abY,bM];exact aaA),bd,?_⟩⟩⟩
 exact q _ ((aaB hp _).trans (aaB hl _))
theorem abF:Df P w K mg base "read_number" 3 ["text","low","high"] (am1 K):=by
 refine ZZ.cr.dfs sc_read_number (fun vs H Q E h=>?_) (fun f cdv A outer s H vs Q E hr h=>?_)
 ·obtain⟨_,_,_,rfl,_⟩:=h
  rfl
 obtain⟨l,lo,hi,rfl,hl,q⟩:=h
 refine⟨_,(ssC (sIf (tNo (tVa (eD (agG ZZ) hr (aC (v_ 0) aN)))) (ss1 (aaE eN)) ssN)
   (ssC (aaJ 3 (eCT aNP ZZ.ax PyProof.Rows.boot_int (aC (v_ 0) aN)) sc_read_number.nd)
   (ssC (sIf (tCh oLe oLe (v_ 1) (v_ 3) (v_ 2)) (ss1 (aaE (v_ 3))) ssN)
   (ss1 (aaE eN))))),?_⟩
 refine⟨_,rfl,l,rfl,(by omega),fun H1 s1=>⟨_,rfl,?_⟩⟩
 by_cases c:isW l=true
 ·rw[c]
  obtain⟨d1,d2⟩:=au4 c
  refine aaX ⟨_,rfl,l,rfl,d1,d2,(by omega),?_⟩
  refine⟨_,rfl,_,rfl,_,_,rfl,rfl,_,rfl,?_⟩
  show if decide (lo<=dv l)=true then _ else _
  refine ifD (fun c1=>⟨_,rfl,_,_,rfl,rfl,_,rfl,?_⟩) (fun c1=>⟨_,rfl,?_⟩)
  ·show if decide (dv l<=hi)=true then _ else _
   refine ifD (fun c2=>?_) (fun c2=>?_)
   ·have e:aaR lo hi l=some (dv l):=by unfold aaR;rw[if_pos c,if_pos ⟨c1,c2⟩]
    rw[e] at q
    exact⟨_,rfl,q H1 s1⟩
   ·have e:aaR lo hi l=none:=by unfold aaR;rw[if_pos c,if_neg fun z=>c2 z.2]
    rw[e] at q
    exact q H1 s1
  ·have e:aaR lo hi l=none:=by unfold aaR;rw[if_pos c,if_neg fun z=>c1 z.1]
   rw[e] at q
   exact aaX (q H1 s1)
 ·have c':isW l=false:=by simpa using c
  rw[c']
  have e:aaR lo hi l=none:=by unfold aaR;rw[if_neg c]
  rw[e] at q
  exact abH (q H1 s1)
theorem ajH:Df P w K mg base "read_run" 4 ["text","low","high"] (as7 K):=by
 refine ZZ.eg.dfs sc_read_run (fun vs H Q E h=>?_) (fun f cdv A outer s H vs Q E hr h=>?_)
 ·obtain⟨_,_,_,rfl,_⟩:=h
  rfl
 obtain⟨l,lo,hi,rfl,hl,q⟩:=h
 refine⟨_,(ssC (sIf (tCm oEq (v_ 0) (eSx [42])) (ss1 (aaE (aa5 (aC (v_ 1) (aC (v_ 2) aN))))) ssN)
   (ssC (azV 3 ["low","high"] [1,2] (iL (avO (v_ 0) (eSx [45]))) (fun _ _ _ _ _ _=>fsN) (fun _ _ _ _ _ _=>(eD (abF ZZ) hr (aC (v_ 0) (aC (v_ 1) (aC (v_ 2) aN))))) sc_read_run.nd)
   (ssC (sIf (tW (wOr (tCm oGt (eCB as6 ZZ.ak PySem.boot_len (aC (v_ 3) aN)) eI) (wOr (tCm oIn eN (v_ 3)) (alX (tCm oGt (eIx xL (v_ 3) eI) (eIx xL (v_ 3) (eUn avR eI))))))) (ss1 (aaE eN)) ssN)
   (ss1 (aaE (aa5 (aC (eIx xL (v_ 3) eI) (aC (eIx xL (v_ 3) (eUn avR eI)) aN)))))))),?_⟩
 refine⟨_,rfl,rfl,_,rfl,?_⟩
 rw[ay6 l [42]]
 by_cases c:l=[42]
 ·rw[dU c]
  refine abH ⟨_,rfl,_,rfl,(zL 2),fun p hp=>?_⟩
  have e:aaT lo hi l=some (lo,hi):=by unfold aaT;rw[if_pos c]
  rw[e] at q
  exact q _ _ (aaB hp _) ⟨p,rfl,aaA⟩
 rw[dY c]
 have hsl:=ahC 45 l
 have eR:aaT lo hi l=ahD ((spl 45 l).map (aaR lo hi)):=by unfold aaT;rw[if_neg c]
 rw[eR] at q
 refine aaX ⟨_,rfl,rfl,l,45,rfl,rfl,(by rw[dQ];omega),fun ps hps=>⟨ps,rfl,⟨_,SqL.of aaA⟩,ab8 (xs:=(spl 45 l).map fun q=>V.str (Tx q)) (fun i z=>z=((spl 45 l).take i).map fun q=>oV (aaR lo hi q)) (by rw[aM,dQ];omega) rfl (SqL.of aaA) ?_ ?_⟩⟩
 ·intro i v z D H2 E' F' hv hR hD s2 hz hE hF
  subst hR
  rw[aY] at hv
  cases ew:(spl 45 l)[i]? with
  |none=>rw[ew] at hv;cases hv
  |some w0=>
   rw[ew] at hv
   obtain rfl:V.str (Tx w0)=v:=a8 hv
   have hw:=ab0 45 l w0 (bH ew)
   exact⟨_,rfl,_,rfl,_,rfl,w0,lo,hi,rfl,(by omega),fun H3 s3=>hE _ _ s3 (by rw[bI,ew,aT];rfl)⟩
 intro D H2 z hR hD s2 hz
 subst hR
 rw[aM,bQ] at hz
 have hz2:H2 D=some (.lst (((spl 45 l).map (aaR lo hi)).map oV)):=by rw[hz,bM];rfl
 have hlen:((spl 45 l).map (aaR lo hi)).length<=600:=by rw[aM];omega
 have hnn:(spl 45 l).map (aaR lo hi)≠[]:=fun e=>aEX 45 l (cW.mp e)
 generalize (spl 45 l).map (aaR lo hi)=es at hz2 q hlen hnn
 have s02:Same H H2:=(aaB hps _).trans s2
 have hfl:(es.map oV).all aeR=true:=aCH es
 refine⟨_,rfl,D,_,rfl,.inl (SqL.of hz2),_,_,rfl,rfl,_,rfl,?_⟩
 match es,hnn with
 |[],h=>exact absurd rfl h
 |[none],_=>
  refine aaX ⟨_,rfl,D,_,rfl,.inl (SqL.of hz2),rfl,hfl,_,rfl,abH ?_⟩
  exact q _ _ s02 rfl
 |[some a],_=>
  refine aaX ⟨_,rfl,D,_,rfl,.inl (SqL.of hz2),rfl,hfl,_,rfl,aaX ⟨_,rfl,D,_,_,_,rfl,rfl,SqL.of hz2,rfl,_,rfl,_,rfl,D,_,_,_,rfl,rfl,SqL.of hz2,rfl,_,_,rfl,rfl,_,rfl,?_⟩⟩
  rw[dY (show ¬a<a by omega)]
  refine aaX ⟨_,rfl,D,_,_,_,rfl,rfl,SqL.of hz2,rfl,_,rfl,_,rfl,D,_,_,_,rfl,rfl,SqL.of hz2,rfl,(zL 2),fun p hp=>?_⟩
  exact q _ _ (s02.trans (aaB hp _)) ⟨p,rfl,aaA⟩
 |[none,y],_=>
  refine aaX ⟨_,rfl,D,_,rfl,.inl (SqL.of hz2),rfl,hfl,_,rfl,abH ?_⟩
  exact q _ _ s02 rfl
 |[some a,none],_=>
  refine aaX ⟨_,rfl,D,_,rfl,.inl (SqL.of hz2),rfl,hfl,_,rfl,abH ?_⟩
  exact q _ _ s02 rfl
 |[some a,some b],_=>
  refine aaX ⟨_,rfl,D,_,rfl,.inl (SqL.of hz2),rfl,hfl,_,rfl,aaX ⟨_,rfl,D,_,_,_,rfl,rfl,SqL.of hz2,rfl,_,rfl,_,rfl,D,_,_,_,rfl,rfl,SqL.of hz2,rfl,_,_,rfl,rfl,_,rfl,?_⟩⟩
  refine ifD (fun c2=>?_) (fun c2=>?_)
  ·have e:ahD [some a,some b]=none:=by show (if b<a then none else some (a,b))=none;rw[if_pos c2]
   rw[e] at q
   exact q _ _ s02 rfl
  ·have e:ahD [some a,some b]=some (a,b):=by show (if b<a then none else some (a,b))=some (a,b);rw[if_neg c2]
   rw[e] at q
   refine⟨_,rfl,D,_,_,_,rfl,rfl,SqL.of hz2,rfl,_,rfl,_,rfl,D,_,_,_,rfl,rfl,SqL.of hz2,rfl,(zL 2),fun p hp=>?_⟩
   exact q _ _ (s02.trans (aaB hp _)) ⟨p,rfl,aaA⟩
 |x::y::u::r,_=>
  have e3:decide ((2:Int)<(((x::y::u::r).map oV).length:Nat))=true:=dU (by rw[aM];show (2:Int)<((r.length+1+1+1:Nat):Int);omega)
  refine ifT e3 ?_
  have e:ahD (x::y::u::r)=none:=by cases x<;>cases y<;>rfl
  rw[e] at q
  exact q _ _ s02 rfl
theorem aj0:Df P w K mg base "read_strided" 5 ["run_text","stride_text","low","high"] (ajY K):=by
 refine ZZ.b7.dfs sc_read_strided (fun vs H Q E h=>?_) (fun f cdv A outer s H vs Q E hr h=>?_)
 ·obtain⟨_,_,_,_,rfl,_⟩:=h
  rfl
 obtain⟨r,st,lo,hi,rfl,hr1,hs1,hb,q⟩:=h
 refine⟨_,(ssC (aaJ 4 (eD (ajH ZZ) hr (aC (v_ 0) (aC (v_ 2) (aC (v_ 3) aN)))) sc_read_strided.nd)
   (ssC (aaJ 5 (eD (abF ZZ) hr (aC (v_ 1) (aC eI (aC (eGl (v:=.int 99) ZZ.co ⟨_,rfl⟩) aN)))) sc_read_strided.nd)
   (ssC (sIf (tW (wOr (tCm afI (v_ 4) eN) (alX (tCm afI (v_ 5) eN)))) (ss1 (aaE eN)) ssN)
   (ssC (aaJ 6 (eIf (tVa (eD (agG ZZ) hr (aC (v_ 0) aN))) (v_ 3) (eIx xT (v_ 4) eI)) sc_read_strided.nd)
   (ss1 (aaE (eD (afN ZZ) hr (aC (eIx xT (v_ 4) eI) (aC (v_ 6) (aC (v_ 5) aN)))))))))),?_⟩
 refine⟨_,rfl,_,rfl,_,rfl,r,lo,hi,rfl,(by omega),fun rv H1 s1 hrv=>?_⟩
 refine⟨_,rfl,st,1,99,rfl,(by omega),fun H2 s2=>?_⟩
 cases er:aaT lo hi r with
 |none=>
  rw[er] at hrv
  have hrv:rv=.non:=hrv
  subst hrv
  have e:abE lo hi r st=none:=by unfold abE;rw[er]
  rw[e] at q
  exact⟨_,rfl,rfl,_,rfl,abH (q H2 (s1.trans s2))⟩
 |some ab=>
  obtain⟨a,b⟩:=ab
  rw[er] at hrv
  obtain⟨p,rfl,hp⟩:=hrv
  have bd:=al7 hb.2.1 er
  refine⟨_,rfl,rfl,_,rfl,ifF rfl ⟨_,rfl,rfl,_,rfl,?_⟩⟩
  cases es:aaR 1 99 st with
  |none=>
   have e:abE lo hi r st=none:=by unfold abE;rw[er,es]
   rw[e] at q
   exact ifT rfl (q H2 (s1.trans s2))
  |some sv=>
   have bs:=atM es
   have hp2:=s2 _ _ hp
   refine ifF rfl ⟨_,rfl,r,rfl,(by omega),fun H3 s3=>⟨_,rfl,?_⟩⟩
   have hp3:=s3 _ _ hp2
   refine if2 (fun c=>?_) (fun c=>?_)
   ·have e:abE lo hi r st=some (abV a hi sv):=by unfold abE;rw[er,es];show some (abV a (if isW r=true then hi else b) sv)=_;rw[if_pos c]
    rw[e] at q
    refine⟨_,rfl,_,rfl,p,_,_,_,rfl,rfl,SqT.of hp3,rfl,_,rfl,_,rfl,a,hi,sv,rfl,⟨by omega,by omega⟩,⟨by omega,by omega⟩,⟨by omega,by omega⟩,fun H4 s4=>?_⟩
    exact q H4 (s1.trans (s2.trans (s3.trans s4)))
   ·have e:abE lo hi r st=some (abV a b sv):=by unfold abE;rw[er,es];show some (abV a (if isW r=true then hi else b) sv)=_;rw[if_neg (by rw[c];exact aW)]
    rw[e] at q
    refine⟨_,rfl,p,_,_,_,rfl,rfl,SqT.of hp3,rfl,_,rfl,p,_,_,_,rfl,rfl,SqT.of hp3,rfl,_,rfl,_,rfl,a,b,sv,rfl,⟨by omega,by omega⟩,⟨by omega,by omega⟩,⟨by omega,by omega⟩,fun H4 s4=>?_⟩
    exact q H4 (s1.trans (s2.trans (s3.trans s4)))
theorem ahX:Df P w K mg base "read_item" 6 ["item","low","high"] (ap1 K):=by
 refine ZZ.di.dfs sc_read_item (fun vs H Q E h=>?_) (fun f cdv A outer s H vs Q E hr h=>?_)
 ·obtain⟨_,_,_,rfl,_⟩:=h
  rfl
 obtain⟨l,lo,hi,rfl,hl,hb,q⟩:=h
 refine⟨_,(ssC (aaJ 3 (avO (v_ 0) (eSx [47])) sc_read_item.nd)
   (ssC (sIf (tCm oEq (eCB as6 ZZ.ak PySem.boot_len (aC (v_ 3) aN)) eI) (ss1 (aaE (eD (aj0 ZZ) hr (aC (eIx xL (v_ 3) eI) (aC (eIx xL (v_ 3) eI) (aC (v_ 1) (aC (v_ 2) aN))))))) ssN)
   (ssC (aaJ 4 (eD (ajH ZZ) hr (aC (v_ 0) (aC (v_ 1) (aC (v_ 2) aN)))) sc_read_item.nd)
   (ssC (sIf (tCm afI (v_ 4) eN) (ss1 (aaE eN)) ssN)
   (ss1 (aaE (eD (afN ZZ) hr (aC (eIx xT (v_ 4) eI) (aC (eIx xT (v_ 4) eI) (aC eI aN)))))))))),?_⟩
 have hsl:=ahC 47 l
 have hml:=ab0 47 l
 refine⟨_,rfl,rfl,l,47,rfl,rfl,(by rw[dQ];omega),fun ps hps=>?_⟩
 have s0:=aaB hps (.lst ((spl 47 l).map fun q=>V.str (Tx q)))
 refine⟨_,rfl,ps,_,rfl,.inl (SqL.of aaA),rfl,_,rfl,?_⟩
 have two:(∃r s,spl 47 l=[r,s])∨(∀r s,spl 47 l≠[r,s]):=by
  by_cases z:∃r s,spl 47 l=[r,s]
  ·exact .inl z
  ·exact .inr fun r s e=>z ⟨r,s,e⟩
 rcases two with ⟨r,s,e2⟩ | hno
 ·have e:aaG lo hi l=abE lo hi r s:=by unfold aaG;rw[e2]
  rw[e] at q
  have h1:=hml r (by rw[e2];simp)
  have h2:=hml s (by rw[e2];simp)
  rw[e2]
  refine ifT rfl ⟨_,rfl,ps,_,_,_,rfl,rfl,SqL.of aaA,rfl,_,rfl,ps,_,_,_,rfl,rfl,SqL.of aaA,rfl,_,rfl,_,rfl,r,s,lo,hi,rfl,(by omega),(by omega),hb,fun H1 s1=>?_⟩
  exact q H1 ((aaB hps _).trans s1)
 ·have hlen:¬(spl 47 l).length=2:=fun e=>by
   match h:spl 47 l,e with
   |[r,s],_=>exact hno r s h
  have e:aaG lo hi l=match aaT lo hi l with | some (a,b)=>some (abV a b 1) | none=>none:=by
   unfold aaG
   split
   ·rename_i r s h
    exact absurd h (hno r s)
   ·rfl
  refine ifF (dY fun z=>hlen (by have z:=V.int.inj z;rw[aM] at z;omega)) ?_
  refine⟨_,rfl,_,rfl,_,rfl,l,lo,hi,rfl,(by omega),fun rv H1 s1 hrv=>?_⟩
  cases er:aaT lo hi l with
  |none=>
   rw[er] at hrv e
   have hrv:rv=.non:=hrv
   subst hrv
   rw[e] at q
   exact⟨_,rfl,rfl,_,rfl,abH (q H1 (s0.trans s1))⟩
  |some ab=>
   obtain⟨a,b⟩:=ab
   rw[er] at hrv e
   obtain⟨p,rfl,hp⟩:=hrv
   have bd:=al7 hb.2.1 er
   have e:aaG lo hi l=some (abV a b 1):=e
   rw[e] at q
   refine⟨_,rfl,rfl,_,rfl,ifF rfl ⟨_,rfl,p,_,_,_,rfl,rfl,SqT.of hp,rfl,_,rfl,p,_,_,_,rfl,rfl,SqT.of hp,rfl,a,b,1,rfl,⟨by omega,by omega⟩,⟨by omega,by omega⟩,⟨by decide,by decide⟩,fun H4 s4=>?_⟩⟩
   exact q H4 (s0.trans (s1.trans s4))
theorem anL:Df P w K mg base "read_field" 7 ["text","low","high"] (anU K):=by
 refine ZZ.c8.dfs sc_read_field (fun vs H Q E h=>?_) (fun f cdv A outer s H vs Q E hr h=>?_)
 ·obtain⟨_,_,_,rfl,_⟩:=h
  rfl
 obtain⟨l,lo,hi,rfl,hl,hb,⟨hk,hok⟩,q⟩:=h
 refine⟨_,(ssC (sIf (tW (wOr (tNo (tVa (eCB cIs ZZ.ad PyProof.Rows.boot_isinstance (aC (v_ 0) (aC (eTy ZZ.aa PyProof.Rows.boot_str) aN))))) (alX (tCm oGt (eCB ay4 ZZ.ak PySem.boot_len (aC (v_ 0) aN)) (eGl (v:=.int 300) ZZ.bf ⟨_,rfl⟩))))) (ss1 arL) ssN)
   (ssC (aaJ 3 (avO (v_ 0) (eSx [44])) sc_read_field.nd)
   (ssC (aaJ 4 eI sc_read_field.nd)
   (ssC (aeK (iE ZZ.a7 (eSl slL (v_ 3) poN (poS (eGl (v:=.int 40) ZZ.ap ⟨_,rfl⟩)))) (gTu (gsC (gN 5 sc_read_field.nd) (gsC (gN 6 sc_read_field.nd) gsN))) (ssC (aaJ 7 (eD (ahX ZZ) hr (aC (v_ 6) (aC (v_ 1) (aC (v_ 2) aN)))) sc_read_field.nd)
   (ssC (sIf (tCm afI (v_ 7) eN) (ss1 arL) ssN)
   (ss1 (aaJ 4 (eOp oOr (v_ 4) (v_ 7)) sc_read_field.nd)))) PassesOwn.never)
   (ssC (sIf (tCm oGt (eCB as6 ZZ.ak PySem.boot_len (aC (v_ 3) aN)) (eGl (v:=.int 40) ZZ.ap ⟨_,rfl⟩)) (ss1 arL) ssN)
   (ss1 (aaE (v_ 4)))))))),?_⟩
 have hml:=ab0 44 l
 refine⟨_,rfl,_,.str,.str,rfl,(by decide),rfl,_,rfl,ifF rfl ⟨_,rfl,l,rfl,(by rw[dQ];omega),_,_,rfl,rfl,_,rfl,?_⟩⟩
 rw[dY (show ¬(300:Int)<((l.length:Nat):Int) by omega)]
 refine aaX ⟨_,rfl,rfl,l,44,rfl,rfl,(by rw[dQ];omega),fun ps hps=>?_⟩
 have s0:=aaB hps (.lst ((spl 44 l).map fun q=>V.str (Tx q)))
 refine⟨_,rfl,_,rfl,ps,_,rfl,SqL.of aaA,fun pc hpc=>?_⟩
 have ecut:ae8 ((spl 44 l).map fun q=>V.str (Tx q)) none (some 40)=(spl 44 l).map fun q=>V.str (Tx q):=aC4 (by rw[aM];exact hk)
 rw[ecut]
 have s1:=aaB hpc (.lst ((spl 44 l).map fun q=>V.str (Tx q)))
 refine⟨pc,rfl,⟨_,SqL.of aaA⟩,ar1 (K:=K) (a:=pc) (xs:=(spl 44 l).map fun q=>V.str (Tx q)) (fun i σ H2=>∃(u1 u2 u3:Option V),σ=[some (.str (Tx l)),some (.int lo),some (.int hi),some (.ref ps),some (.int (orM ((acM lo hi l).take i))),u1,u2,u3]/\Same (upd (upd H ps (.lst ((spl 44 l).map fun q=>V.str (Tx q)))) pc (.lst ((spl 44 l).map fun q=>V.str (Tx q)))) H2) ⟨_,_,_,rfl,Same.refl _⟩ (fun i σ H2 _ ⟨_,_,_,_,s2⟩=>SqL.of (s2 _ _ aaA)) ?_ ?_⟩
 ·rintro i x σ H2 T hx ⟨u1,u2,u3,rfl,s2⟩ hT
  rw[aY] at hx
  cases ew:(spl 44 l)[i]? with
  |none=>rw[ew] at hx;cases hx
  |some w0=>
   rw[ew] at hx
   obtain rfl:V.str (Tx w0)=x:=a8 hx
   have hw:=hml w0 (bH ew)
   obtain⟨m,em⟩:=c6.mp (hok w0 (bH ew))
   refine⟨T,_,rfl,SqT.of aaA,rfl,_,_,rfl,_,_,rfl,rfl,?_⟩
   refine⟨_,rfl,_,rfl,_,rfl,w0,lo,hi,rfl,(by omega),hb,fun H3 s3=>?_⟩
   rw[em]
   refine⟨_,rfl,rfl,_,rfl,ifF rfl ⟨_,rfl,_,rfl,_,_,rfl,rfl,?_⟩⟩
   have et:orM ((acM lo hi l).take (i+1))=Builtin.bitOr (orM ((acM lo hi l).take i)) m:=by
    rw[←adP,bI]
    unfold acM
    rw[aY,ew]
    show orM (_++[(aaG lo hi w0).getD 0])=_
    rw[em]
    rfl
   exact⟨_,_,_,by rw[et];rfl,s2.trans ((aaB hT _).trans s3)⟩
 ·rintro σ H2 ⟨u1,u2,u3,rfl,s2⟩
  refine⟨_,rfl,ps,_,rfl,.inl (SqL.of (s2 _ _ (s1 _ _ aaA))),_,_,rfl,rfl,_,rfl,?_⟩
  rw[dY (show ¬(40:Int)<((((spl 44 l).map fun q=>V.str (Tx q)).length:Nat):Int) by rw[aM];omega)]
  refine aaX ⟨_,rfl,?_⟩
  rw[aM,show (spl 44 l).length=(acM lo hi l).length by unfold acM;rw[aM],bQ]
  exact q H2 (s0.trans (s1.trans s2))
theorem agO:Df P w K mg base "weekday_at" 1 ["day","first"] (am7 K):=by
 refine ZZ.c9.dfs anS (fun vs H Q E h=>?_) (fun f cdv A outer s H vs Q E hr h=>?_)
 ·obtain⟨_,_,rfl,_⟩:=h
  rfl
 obtain⟨d,f,rfl,q⟩:=h
 refine⟨_,(ss1 (aaE (eOp aa7 (eOp abP (eOp aaM (v_ 1) (v_ 0)) eI) eI))),?_⟩
 exact⟨_,rfl,_,rfl,_,_,rfl,rfl,_,_,rfl,rfl,_,_,rfl,rfl,(by show (0:Int)<7;decide),q⟩
theorem afJ:Df P w K mg base "all_days" 1 ["last"] (arT K):=by
 refine ZZ.eh.dfs atP (fun vs H Q E h=>?_) (fun f cdv A outer s H vs Q E hr h=>?_)
 ·obtain⟨_,rfl,_⟩:=h
  rfl
 obtain⟨l,rfl,hl,q⟩:=h
 refine⟨_,(ss1 (aaE (eOp abP (eOp af4 eI (v_ 0)) eI))),?_⟩
 exact⟨_,rfl,_,_,rfl,rfl,⟨by omega,by omega,by decide⟩,_,_,rfl,rfl,q⟩
theorem ad8:Df P w K mg base "nearest_work" 2 ["day","last","first"] (akL K):=by
 refine ZZ.b8.dfs sc_nearest_work (fun vs H Q E h=>?_) (fun f cdv A outer s H vs Q E hr h=>?_)
 ·obtain⟨_,_,_,rfl,_⟩:=h
  rfl
 obtain⟨d,l,fi,rfl,q⟩:=h
 refine⟨_,(ssC (aaJ 3 (eD (agO ZZ) hr (aC (v_ 0) (aC (v_ 2) aN))) sc_nearest_work.nd)
   (ssC (sIf (tCm oEq (v_ 3) (eGl (v:=.int 6) ZZ.d9 ⟨_,rfl⟩)) (ss1 (aaE (eIf (tCm oGt (v_ 0) eI) (eOp abP (v_ 0) eI) eI))) ssN)
   (ssC (sIf (tCm oEq (v_ 3) (eGl (v:=.int 0) ZZ.bo ⟨_,rfl⟩)) (ss1 (aaE (eIf (tCm oLt (v_ 0) (v_ 1)) (eOp aaM (v_ 0) eI) (eOp abP (v_ 1) eI)))) ssN)
   (ss1 (aaE (v_ 0)))))),?_⟩
 refine⟨_,rfl,_,rfl,_,_,rfl,?_⟩
 refine⟨_,rfl,rfl,_,rfl,ifI (fun c=>?_) (fun c=>?_)⟩
 ·refine⟨_,rfl,_,_,rfl,rfl,_,rfl,ifD (fun c2=>⟨_,rfl,_,_,rfl,rfl,?_⟩) (fun c2=>?_)⟩
  ·have e:nw d l fi=d-1:=by unfold nw;rw[if_pos c,if_pos c2]
   rw[e] at q
   exact q
  ·have e:nw d l fi=3:=by unfold nw;rw[if_pos c,if_neg c2]
   rw[e] at q
   exact q
 ·refine⟨_,rfl,rfl,_,rfl,ifI (fun c1=>?_) (fun c1=>?_)⟩
  ·refine⟨_,rfl,_,rfl,_,_,rfl,rfl,_,rfl,ifD (fun c2=>⟨_,rfl,_,_,rfl,rfl,?_⟩) (fun c2=>⟨_,rfl,_,_,rfl,rfl,?_⟩)⟩
   ·have e:nw d l fi=d+1:=by unfold nw;rw[if_neg c,if_pos c1,if_pos c2]
    rw[e] at q
    exact q
   ·have e:nw d l fi=l-2:=by unfold nw;rw[if_neg c,if_pos c1,if_neg c2]
    rw[e] at q
    exact q
  ·have e:nw d l fi=d:=by unfold nw;rw[if_neg c,if_neg c1]
   rw[e] at q
   exact⟨_,rfl,q⟩
theorem apD:Df P w K mg base "first_one" 1 ["weekday","first"] (aq9 K):=by
 refine ZZ.dj.dfs aoZ (fun vs H Q E h=>?_) (fun f cdv A outer s H vs Q E hr h=>?_)
 ·obtain⟨_,_,rfl,_⟩:=h
  rfl
 obtain⟨wd,fi,rfl,q⟩:=h
 refine⟨_,(ss1 (aaE (eOp aaM eI (eOp aa7 (eOp abP (v_ 0) (v_ 1)) eI)))),?_⟩
 exact⟨_,rfl,_,rfl,_,_,rfl,rfl,_,_,rfl,rfl,(by show (0:Int)<7;decide),_,_,rfl,rfl,q⟩
theorem aqT:DfM P w K mg base aI "days" 1 ["self","last","first"] (aqQ K aI):=by
 refine ZZ.dk.dfs apA (fun vs H Q E h=>?_) (fun f cdv A outer s H vs Q E hr h=>?_)
 ·obtain⟨_,_,_,rfl,_⟩:=h
  rfl
 obtain⟨p,l,fi,rfl,q⟩:=h
 refine⟨_,(ss1 (aaE eI)),?_⟩
 exact q
theorem af3:DfM P w K mg base aB "__init__" 1 ["self","mask"] (afW K aB):=by
 refine ZZ.bm.dfs af0 (fun vs H Q E h=>?_) (fun f cdv A outer s H vs Q E hr h=>?_)
 ·obtain⟨_,_,_,rfl,_⟩:=h
  rfl
 obtain⟨p,dx,m,rfl,hp,q⟩:=h
 refine⟨_,(ss1 (sFl (v_ 0) (v_ 1))),?_⟩
 exact⟨_,rfl,_,rfl,p,aB,dx,[],rfl,hp,ZZ.al.cl,ZZ.ay,(by show 0<1000;decide),q⟩
theorem akR:DfM P w K mg base aB "days" 2 ["self","last","first"] (aj8 K aB):=by
 refine ZZ.b9.dfs akC (fun vs H Q E h=>?_) (fun f cdv A outer s H vs Q E hr h=>?_)
 ·obtain⟨_,_,_,_,_,rfl,_⟩:=h
  rfl
 obtain⟨p,dx,m,l,fi,rfl,hp,hl,q⟩:=h
 refine⟨_,(ss1 (aaE (eOp akF (eFl (v_ 0)) (eD (afJ ZZ) hr (aC (v_ 1) aN))))),?_⟩
 exact⟨_,rfl,p,aB,dx,_,_,rfl,hp,ZZ.al.cl,ZZ.ay,rfl,_,rfl,_,rfl,hl.1,_,_,rfl,rfl,q⟩
theorem adJ:DfMD P w K mg base aD "__init__" 1 ["self","back"] (aiA K aD) [.int 0]:=by
 refine ZZ.bv.dfs aiG (fun vs H Q E h=>?_) (fun f cdv A outer s H vs Q E hr h=>?_)
 ·obtain⟨_,_,_,rfl,_⟩:=h
  rfl
 obtain⟨p,dx,m,rfl,hp,q⟩:=h
 refine⟨_,(ss1 (sFl (v_ 0) (v_ 1))),?_⟩
 exact⟨_,rfl,_,rfl,p,aD,dx,[],rfl,hp,ZZ.am.cl,ZZ.aj,(by show 0<1000;decide),q⟩
theorem arF:DfM P w K mg base aD "days" 1 ["self","last","first"] (aq7 K aD):=by
 refine ZZ.dl.dfs apJ (fun vs H Q E h=>?_) (fun f cdv A outer s H vs Q E hr h=>?_)
 ·obtain⟨_,_,_,_,_,rfl,_⟩:=h
  rfl
 obtain⟨p,dx,b,l,fi,rfl,hp,hb,hl,q⟩:=h
 refine⟨_,(ssC (sIf (tCm oGe (eFl (v_ 0)) (v_ 1)) (ss1 (aaE eI)) ssN)
   (ss1 (aaE (eOp af4 eI (eOp abP (v_ 1) (eFl (v_ 0))))))),?_⟩
 refine⟨_,rfl,p,aD,dx,_,_,rfl,hp,ZZ.am.cl,ZZ.aj,rfl,_,rfl,_,_,rfl,rfl,_,rfl,ifD (fun c=>?_) (fun c=>?_)⟩
 ·have e:anR b l=0:=by unfold anR;rw[if_pos c]
  rw[e] at q
  exact q
 ·have e:anR b l=1*2^(l-b).toNat:=by unfold anR;rw[if_neg c]
  rw[e] at q
  have:=hl.1.2
  exact⟨_,rfl,_,rfl,p,aD,dx,_,_,rfl,hp,ZZ.am.cl,ZZ.aj,rfl,_,_,rfl,rfl,_,_,rfl,rfl,⟨by omega,by omega,by decide⟩,q⟩
theorem ah6:DfM P w K mg base aF "__init__" 1 ["self","day"] (aiT K aF):=by
 refine ZZ.bw.dfs aiD (fun vs H Q E h=>?_) (fun f cdv A outer s H vs Q E hr h=>?_)
 ·obtain⟨_,_,_,rfl,_⟩:=h
  rfl
 obtain⟨p,dx,m,rfl,hp,q⟩:=h
 refine⟨_,(ss1 (sFl (v_ 0) (v_ 1))),?_⟩
 exact⟨_,rfl,_,rfl,p,aF,dx,[],rfl,hp,ZZ.az.cl,ZZ.a1,(by show 0<1000;decide),q⟩
theorem ao1:DfM P w K mg base aF "days" 3 ["self","last","first"] (apW K aF):=by
 refine ZZ.dm.dfs ap5 (fun vs H Q E h=>?_) (fun f cdv A outer s H vs Q E hr h=>?_)
 ·obtain⟨_,_,_,_,_,rfl,_⟩:=h
  rfl
 obtain⟨p,dx,d,l,fi,rfl,hp,ok,q⟩:=h
 refine⟨_,(ssC (sIf (tCm oGt (eFl (v_ 0)) (v_ 1)) (ss1 (aaE eI)) ssN)
   (ss1 (aaE (eOp af4 eI (eD (ad8 ZZ) hr (aC (eFl (v_ 0)) (aC (v_ 1) (aC (v_ 2) aN)))))))),?_⟩
 refine⟨_,rfl,p,aF,dx,_,_,rfl,hp,ZZ.az.cl,ZZ.a1,rfl,_,rfl,_,_,rfl,rfl,_,rfl,ifD (fun c=>?_) (fun c=>?_)⟩
 ·have e:aiL d l fi=0:=by unfold aiL;rw[if_pos c]
  rw[e] at q
  exact q
 ·have e:aiL d l fi=1*2^(nw d l fi).toNat:=by unfold aiL;rw[if_neg c]
  rw[e] at q
  have hn:=ak0 ok (by omega)
  exact⟨_,rfl,p,aF,dx,_,_,rfl,hp,ZZ.az.cl,ZZ.a1,rfl,_,rfl,_,rfl,_,_,_,rfl,_,_,rfl,rfl,⟨by omega,by omega,by decide⟩,q⟩
theorem aiW:DfM P w K mg base aH "days" 3 ["self","last","first"] (aiI K aH):=by
 refine ZZ.bx.dfs ah1 (fun vs H Q E h=>?_) (fun f cdv A outer s H vs Q E hr h=>?_)
 ·obtain⟨_,_,_,_,rfl,_⟩:=h
  rfl
 obtain⟨p,dx,l,fi,rfl,hp,ok,q⟩:=h
 refine⟨_,(ss1 (aaE (eOp af4 eI (eD (ad8 ZZ) hr (aC (v_ 1) (aC (v_ 1) (aC (v_ 2) aN))))))),?_⟩
 have hn:=ak0 ok (aU _)
 exact⟨_,rfl,_,rfl,_,rfl,_,_,_,rfl,_,_,rfl,rfl,⟨by omega,by omega,by decide⟩,q⟩
theorem aeY:DfM P w K mg base aE "__init__" 1 ["self","mask"] (afM K aE):=by
 refine ZZ.bi.dfs afA (fun vs H Q E h=>?_) (fun f cdv A outer s H vs Q E hr h=>?_)
 ·obtain⟨_,_,_,rfl,_⟩:=h
  rfl
 obtain⟨p,dx,m,rfl,hp,q⟩:=h
 refine⟨_,(ss1 (sFl (v_ 0) (v_ 1))),?_⟩
 exact⟨_,rfl,_,rfl,p,aE,dx,[],rfl,hp,ZZ.ag.cl,ZZ.au,(by show 0<1000;decide),q⟩
theorem aiR:DfM P w K mg base aE "days" 2 ["self","last","first"] (aiK K aE):=by
 refine ZZ.bz.dfs sc_Weekdays_days (fun vs H Q E h=>?_) (fun f cdv A outer s H vs Q E hr h=>?_)
 ·obtain⟨_,_,_,_,_,rfl,_⟩:=h
  rfl
 obtain⟨p,dx,m,l,fi,rfl,hp,hm,⟨hl,hf⟩,q⟩:=h
 refine⟨_,(ssC (aaJ 3 eI sc_Weekdays_days.nd)
   (ssC (aeK (iR1 ZZ.ab (aC eI aN)) (gN 4 sc_Weekdays_days.nd) (ss1 (aaJ 3 (eOp oOr (v_ 3) (eOp af4 (eFl (v_ 0)) (eOp adR eI (v_ 4)))) sc_Weekdays_days.nd)) PassesOwn.never)
   (ss1 (aaE (eOp akF (eOp af4 (eOp alD (v_ 3) (v_ 2)) eI) (eD (afJ ZZ) hr (aC (v_ 1) aN))))))),?_⟩
 have hb:=aCG m (aAF hm.1 hm.2)
 refine⟨_,rfl,by decide,by decide,afS (fun i σ H2=>H2=H/\∃u:Option V,σ=[some (.ref p),some (.int l),some (.int fi),some (.int (wks m i)),u]) ⟨rfl,_,rfl⟩ ?_ ?_⟩
 ·rintro i σ H2 hi ⟨rfl,u,rfl⟩
  have hi':i<6:=hi
  exact⟨_,rfl,_,rfl,p,aE,dx,_,_,rfl,hp,ZZ.ag.cl,ZZ.au,rfl,_,rfl,_,_,rfl,rfl,.inl ⟨by decide,by decide⟩,_,_,rfl,rfl,⟨by omega,by omega,(by show m.natAbs<2^64;omega)⟩,_,_,rfl,rfl,rfl,_,rfl⟩
 ·rintro σ H2 ⟨rfl,u,rfl⟩
  exact⟨_,rfl,_,rfl,_,_,rfl,rfl,hf.1,_,_,rfl,rfl,⟨by decide,by decide,hb.2 fi (alY hf.1 hf.2)⟩,_,rfl,_,rfl,hl,_,_,rfl,rfl,q⟩
theorem akQ:DfM P w K mg base aA "__init__" 1 ["self","weekday","many"] (aj5 K aA):=by
 refine ZZ.ca.dfs akP (fun vs H Q E h=>?_) (fun f cdv A outer s H vs Q E hr h=>?_)
 ·obtain⟨_,_,_,_,rfl,_⟩:=h
  rfl
 obtain⟨p,dx,wd,m,rfl,hp,q⟩:=h
 refine⟨_,(ssC (sFl (v_ 0) (v_ 1))
   (ss1 (sFl (v_ 0) (v_ 2)))),?_⟩
 exact⟨_,rfl,_,rfl,p,aA,dx,[],rfl,hp,ZZ.av.cl,ZZ.a5,(by show 0<1000;decide),_,rfl,_,rfl,p,aA,dx,_,rfl,aaA,ZZ.av.cl,ZZ.a9,(by show 1<1000;decide),q⟩
theorem asM:DfM P w K mg base aA "days" 2 ["self","last","first"] (atG K aA):=by
 refine ZZ.ei.dfs sc_Nth_days (fun vs H Q E h=>?_) (fun f cdv A outer s H vs Q E hr h=>?_)
 ·obtain⟨_,_,_,_,_,_,rfl,_⟩:=h
  rfl
 obtain⟨p,dx,wd,m,l,fi,rfl,hp,hw,hm,⟨hl,hf⟩,q⟩:=h
 refine⟨_,(ssC (aaJ 3 (eOp aaM (eD (apD ZZ) hr (aC (eFl (v_ 0)) (aC (v_ 2) aN))) (eOp adR eI (eOp abP (eFl (v_ 0)) eI))) sc_Nth_days.nd)
   (ssC (sIf (tCm oGt (v_ 3) (v_ 1)) (ss1 (aaE eI)) ssN)
   (ss1 (aaE (eOp af4 eI (v_ 3)))))),?_⟩
 have hn:=aw2 l (axO hl.1 hl.2) fi (alY hf.1 hf.2) wd (alY hw.1 hw.2) m (aO8 hm.1 hm.2)
 refine⟨_,rfl,p,aA,dx,_,_,rfl,hp,ZZ.av.cl,ZZ.a5,ayV _ _,_,rfl,_,_,rfl,_,rfl,p,aA,dx,_,_,rfl,hp,ZZ.av.cl,ZZ.a9,ayS _ _,_,_,rfl,rfl,_,_,rfl,rfl,.inl ⟨by decide,by decide⟩,_,_,rfl,rfl,?_⟩
 refine⟨_,rfl,_,rfl,_,_,rfl,rfl,_,rfl,ifD (fun c=>?_) (fun c=>?_)⟩
 ·have e:ao6 wd m l fi=0:=by unfold ao6;rw[if_pos (show l<agR wd m fi from c)]
  rw[e] at q
  exact q
 ·have e:ao6 wd m l fi=1*2^(agR wd m fi).toNat:=by unfold ao6;rw[if_neg (show ¬l<agR wd m fi from c)]
  rw[e] at q
  exact⟨_,rfl,_,_,rfl,rfl,⟨hn.2.2.1,bZ hn.2.2.2 (by decide),by decide⟩,q⟩
theorem afX:DfM P w K mg base aG "__init__" 1 ["self","weekday"] (afV K aG):=by
 refine ZZ.bn.dfs afZ (fun vs H Q E h=>?_) (fun f cdv A outer s H vs Q E hr h=>?_)
 ·obtain⟨_,_,_,rfl,_⟩:=h
  rfl
 obtain⟨p,dx,m,rfl,hp,q⟩:=h
 refine⟨_,(ss1 (sFl (v_ 0) (v_ 1))),?_⟩
 exact⟨_,rfl,_,rfl,p,aG,dx,[],rfl,hp,ZZ.an.cl,ZZ.ao,(by show 0<1000;decide),q⟩
theorem akE:DfM P w K mg base aG "days" 2 ["self","last","first"] (aj7 K aG):=by
 refine ZZ.cb.dfs aj6 (fun vs H Q E h=>?_) (fun f cdv A outer s H vs Q E hr h=>?_)
 ·obtain⟨_,_,_,_,_,rfl,_⟩:=h
  rfl
 obtain⟨p,dx,wd,l,fi,rfl,hp,hw,⟨hl,hf⟩,q⟩:=h
 refine⟨_,(ss1 (aaE (eOp af4 eI (eOp abP (v_ 1) (eOp aa7 (eOp abP (eD (agO ZZ) hr (aC (v_ 1) (aC (v_ 2) aN))) (eFl (v_ 0))) eI))))),?_⟩
 have hn:=awT l (axO hl.1 hl.2) fi (alY hf.1 hf.2) wd (alY hw.1 hw.2)
 exact⟨_,rfl,_,rfl,_,rfl,_,_,rfl,_,rfl,p,aG,dx,_,_,rfl,hp,ZZ.an.cl,ZZ.ao,rfl,_,_,rfl,rfl,_,_,rfl,rfl,(by show (0:Int)<7;decide),_,_,rfl,rfl,_,_,rfl,rfl,⟨hn.2.1,bZ hn.2.2 (by decide),by decide⟩,q⟩
theorem atF:Df P w K mg base "any_days" 4 ["marks","last","first"] (as1 K aB aD aF aH aE aA aG aI):=by
 refine ZZ.ej.dfs sc_any_days (fun vs H Q E h=>?_) (fun f cdv A outer s H vs Q E hr h=>?_)
 ·obtain⟨_,_,_,_,_,rfl,_⟩:=h
  rfl
 obtain⟨b,ps,ks,l,fi,rfl,hB,fM,oM,hlf,q⟩:=h
 refine⟨_,(ssC (aaJ 3 eI sc_any_days.nd)
   (ssC (aeK (iL (v_ 0)) (gN 4 sc_any_days.nd) (ss1 (aaJ 3 (eOp oOr (v_ 3) (agW (eMe ZZ.al.cl (akR ZZ) hr (v_ 4) (aC (v_ 1) (aC (v_ 2) aN))) (agW (eMe ZZ.am.cl (arF ZZ) hr (v_ 4) (aC (v_ 1) (aC (v_ 2) aN))) (agW (eMe ZZ.az.cl (ao1 ZZ) hr (v_ 4) (aC (v_ 1) (aC (v_ 2) aN))) (agW (eMe ZZ.a8.cl (aiW ZZ) hr (v_ 4) (aC (v_ 1) (aC (v_ 2) aN))) (agW (eMe ZZ.ag.cl (aiR ZZ) hr (v_ 4) (aC (v_ 1) (aC (v_ 2) aN))) (agW (eMe ZZ.av.cl (asM ZZ) hr (v_ 4) (aC (v_ 1) (aC (v_ 2) aN))) (agW (eMe ZZ.an.cl (akE ZZ) hr (v_ 4) (aC (v_ 1) (aC (v_ 2) aN))) (eMe ZZ.c2.cl (aqT ZZ) hr (v_ 4) (aC (v_ 1) (aC (v_ 2) aN))))))))))) sc_any_days.nd)) PassesOwn.never)
   (ss1 (aaE (v_ 3))))),?_⟩
 refine⟨_,rfl,b,rfl,⟨_,hB⟩,abT (K:=K) (a:=b) (xs:=ps.map V.ref) (fun i σ H2=>H2=H/\∃u4:Option V,σ=[some (.ref b),some (.int l),some (.int fi),some (.int (orK (ks.take i) l fi)),u4]) ⟨rfl,_,rfl⟩ (fun i σ H2 _ hP=>by rw[hP.1];exact hB) ?turn ?done⟩
 case done=>
  rintro σ H2 ⟨rfl,u4,rfl⟩
  have el:(ps.map V.ref).length=ks.length:=by rw[aM];exact Paired.length fM
  rw[el,bQ]
  exact⟨_,rfl,q⟩
 case turn=>
  rintro i x σ H2 hx ⟨rfl,u4,rfl⟩
  rw[aY] at hx
  cases ez:ps[i]? with
  |none=>rw[ez] at hx;cases hx
  |some p=>
   rw[ez] at hx
   obtain rfl:V.ref p=x:=a8 hx
   obtain⟨k,ek,hk⟩:=Ft.get fM ez
   have hok:=oM k (bH ek)
   have et:orK (ks.take (i+1)) l fi=Builtin.bitOr (orK (ks.take i) l fi) (k.due l fi):=by
    rw[bI,ek]
    exact atA _ _ _ _
   rw[et]
   cases k with
   |num m=>
    obtain⟨dx,hp⟩:=hk
    exact⟨_,rfl,(.inl ⟨_,rfl,p,dx,_,rfl,hp,rfl,_,rfl,_,rfl,p,dx,m,l,fi,rfl,hp,hlf,_,_,rfl,rfl,rfl,_,rfl⟩)⟩
   |lst b=>
    obtain⟨dx,hp⟩:=hk
    exact⟨_,rfl,(.inr (.inl ⟨_,rfl,p,dx,_,rfl,hp,rfl,_,rfl,_,rfl,p,dx,b,l,fi,rfl,hp,hok,hlf,_,_,rfl,rfl,rfl,_,rfl⟩))⟩
   |nea d=>
    obtain⟨dx,hp⟩:=hk
    exact⟨_,rfl,(.inr (.inr (.inl ⟨_,rfl,p,dx,_,rfl,hp,rfl,_,rfl,_,rfl,p,dx,d,l,fi,rfl,hp,⟨hok,hlf⟩,_,_,rfl,rfl,rfl,_,rfl⟩)))⟩
   |wrk=>
    obtain⟨dx,hp⟩:=hk
    exact⟨_,rfl,(.inr (.inr (.inr (.inl ⟨_,rfl,p,dx,_,rfl,hp,rfl,_,rfl,_,rfl,p,dx,l,fi,rfl,hp,hlf.last,_,_,rfl,rfl,rfl,_,rfl⟩))))⟩
   |wkd m=>
    obtain⟨dx,hp⟩:=hk
    exact⟨_,rfl,(.inr (.inr (.inr (.inr (.inl ⟨_,rfl,p,dx,_,rfl,hp,rfl,_,rfl,_,rfl,p,dx,m,l,fi,rfl,hp,hok,hlf,_,_,rfl,rfl,rfl,_,rfl⟩)))))⟩
   |nth w m=>
    obtain⟨dx,hp⟩:=hk
    exact⟨_,rfl,(.inr (.inr (.inr (.inr (.inr (.inl ⟨_,rfl,p,dx,_,rfl,hp,aCX _ _,_,rfl,_,rfl,p,dx,w,m,l,fi,rfl,hp,hok.1,hok.2,hlf,_,_,rfl,rfl,rfl,_,rfl⟩))))))⟩
   |one w=>
    obtain⟨dx,hp⟩:=hk
    exact⟨_,rfl,(.inr (.inr (.inr (.inr (.inr (.inr (.inl ⟨_,rfl,p,dx,_,rfl,hp,rfl,_,rfl,_,rfl,p,dx,w,l,fi,rfl,hp,hok,hlf,_,_,rfl,rfl,rfl,_,rfl⟩)))))))⟩
   |nil=>
    obtain⟨dx,hp⟩:=hk
    exact⟨_,rfl,(.inr (.inr (.inr (.inr (.inr (.inr (.inr ⟨_,rfl,p,dx,_,rfl,hp,rfl,_,rfl,_,rfl,p,l,fi,rfl,_,_,rfl,rfl,rfl,_,rfl⟩)))))))⟩
theorem ah3:Df P w K mg base "read_day_mark" 4 ["item"] (ah4 K aB aD aF aH aE aA aG aI):=by
 refine ZZ.b0.dfs sc_read_day_mark (fun vs H Q E h=>?_) (fun f cdv A outer s H vs Q E hr h=>?_)
 ·obtain⟨_,rfl,_⟩:=h
  rfl
 obtain⟨t,rfl,hl,q⟩:=h
 refine⟨_,(ssC (sIf (tCm oEq (v_ 0) (eSx [76])) (ss1 (aaE (eMkD ZZ.am (adJ ZZ) hr))) ssN)
   (ssC (sIf (tCm oEq (v_ 0) (eSx [76,87])) (ss1 (aaE (eMkN ZZ.a8 ZZ.d8))) ssN)
   (ssC (sIf (tVa (eSwN (v_ 0) (eSx [76,45]))) (ssC (aaJ 1 (eD (abF ZZ) hr (aC (eSl slX (v_ 0) (poS eI) poN) (aC eI (aC (eGl (v:=.int 30) ZZ.df ⟨_,rfl⟩) aN)))) sc_read_day_mark.nd)
   (ss1 (aaE (eIf (tCm afI (v_ 1) eN) eN (eMk ZZ.am (adJ ZZ).dfm hr (aC (v_ 1) aN)))))) ssN)
   (ssC (sIf (tVa (eEw (v_ 0) (eSx [87]))) (ssC (aaJ 2 (eD (abF ZZ) hr (aC (eSl slX (v_ 0) poN (poS (eUn avR eI))) (aC eI (aC (eGl (v:=.int 31) ZZ.bg ⟨_,rfl⟩) aN)))) sc_read_day_mark.nd)
   (ss1 (aaE (eIf (tCm afI (v_ 2) eN) eN (eMk ZZ.az (ah6 ZZ) hr (aC (v_ 2) aN)))))) ssN)
   (ss1 (aaE eN)))))),?_⟩
 have hz:t.length<=sizeLine:=by rw[dQ];omega
 have hc1:=ahB t (some 2) none
 have hc2:=ahB t none (some (-1))
 refine⟨_,rfl,rfl,_,rfl,ifX (fun c=>?a0) (fun c1=>⟨_,rfl,rfl,_,rfl,ifX (fun c=>?a1) (fun c2=>⟨_,rfl,rfl,t,[76,45],rfl,rfl,_,rfl,ifD (fun c=>?a2) (fun c3=>⟨_,rfl,rfl,t,87,rfl,rfl,_,rfl,ifD (fun c=>?a3) (fun c4=>?a4)⟩)⟩)⟩)⟩
 case a0=>
  have e:adH t=some (.lst 0):=by unfold adH;rw[if_pos c]
  rw[e] at q
  exact fun xo dx nx ndx nex=>⟨xo,dx,0,rfl,aaA,rfl,q _ _ (acY nx ndx) ⟨xo,rfl,dx,aaA⟩⟩
 case a1=>
  have e:adH t=some .wrk:=by unfold adH;rw[if_neg c1,if_pos c]
  rw[e] at q
  exact fun xo dx nx ndx nex=>q _ _ (alS nx ndx) ⟨xo,rfl,dx,aaA⟩
 case a2=>
  have e:adH t=(aaR 1 30 (af2 t (some 2) none)).map Mk.lst:=by unfold adH;rw[if_neg c1,if_neg c2,if_pos c]
  rw[e] at q
  refine⟨_,rfl,_,rfl,t,rfl,hz,_,1,30,rfl,(by omega),fun H1 s1=>?_⟩
  cases en:aaR 1 30 (af2 t (some 2) none) with
  |none=>
   rw[en] at q
   exact⟨_,rfl,rfl,_,rfl,ifT rfl (q _ _ s1 rfl)⟩
  |some b=>
   rw[en] at q
   exact⟨_,rfl,rfl,_,rfl,ifF rfl ⟨_,rfl,fun xo dx nx ndx nex=>⟨xo,dx,_,rfl,aaA,rfl,q _ _ (s1.trans (acY nx ndx)) ⟨xo,rfl,dx,aaA⟩⟩⟩⟩
 case a3=>
  have e:adH t=(aaR 1 31 (af2 t none (some (-1)))).map Mk.nea:=by unfold adH;rw[if_neg c1,if_neg c2,if_neg c3,if_pos c]
  rw[e] at q
  refine⟨_,rfl,_,rfl,_,rfl,t,rfl,hz,_,1,31,rfl,(by omega),fun H1 s1=>?_⟩
  cases en:aaR 1 31 (af2 t none (some (-1))) with
  |none=>
   rw[en] at q
   exact⟨_,rfl,rfl,_,rfl,ifT rfl (q _ _ s1 rfl)⟩
  |some b=>
   rw[en] at q
   exact⟨_,rfl,rfl,_,rfl,ifF rfl ⟨_,rfl,fun xo dx nx ndx nex=>⟨xo,dx,_,rfl,aaA,rfl,q _ _ (s1.trans (acY nx ndx)) ⟨xo,rfl,dx,aaA⟩⟩⟩⟩
 case a4=>
  have e:adH t=none:=by unfold adH;rw[if_neg c1,if_neg c2,if_neg c3,if_neg c4]
  rw[e] at q
  exact q _ _ (Same.refl H) rfl
theorem ad9:Df P w K mg base "read_weekday" 4 ["text"] (akS K):=by
 refine ZZ.cc.dfs sc_read_weekday (fun vs H Q E h=>?_) (fun f cdv A outer s H vs Q E hr h=>?_)
 ·obtain⟨_,rfl,_⟩:=h
  rfl
 obtain⟨t,rfl,hl,q⟩:=h
 refine⟨_,(ssC (aaJ 1 (eD (abF ZZ) hr (aC (v_ 0) (aC eI (aC (eGl (v:=.int 7) ZZ.aq ⟨_,rfl⟩) aN)))) sc_read_weekday.nd)
   (ss1 (aaE (eIf (tCm oEq (v_ 1) (eGl (v:=.int 7) ZZ.aq ⟨_,rfl⟩)) (eGl (v:=.int 0) ZZ.bo ⟨_,rfl⟩) (v_ 1))))),?_⟩
 refine⟨_,rfl,t,0,7,rfl,(by omega),fun H1 s1=>?_⟩
 cases en:aaR 0 7 t with
 |none=>
  have e:wdN t=none:=by unfold wdN;rw[en];rfl
  rw[e] at q
  exact⟨_,rfl,rfl,_,rfl,ifF (dY fun z=>nomatch z) ⟨_,rfl,q _ s1⟩⟩
 |some n=>
  have e:wdN t=some (if n=7 then 0 else n):=by unfold wdN;rw[en];rfl
  rw[e] at q
  refine⟨_,rfl,rfl,_,rfl,ifI (fun c=>?_) (fun c=>⟨_,rfl,?_⟩)⟩
  ·rw[if_pos c] at q
   exact q _ s1
  ·rw[if_neg c] at q
   exact q _ s1
theorem ae1:Df P w K mg base "read_weekday_mark" 5 ["item"] (ae5 K aB aD aF aH aE aA aG aI):=by
 refine ZZ.bj.dfs sc_read_weekday_mark (fun vs H Q E h=>?_) (fun f cdv A outer s H vs Q E hr h=>?_)
 ·obtain⟨_,rfl,_⟩:=h
  rfl
 obtain⟨t,rfl,hl,q⟩:=h
 refine⟨_,(ssC (sIf (tVa (eEw (v_ 0) (eSx [76]))) (ssC (aaJ 1 (eD (ad9 ZZ) hr (aC (eSl slX (v_ 0) poN (poS (eUn avR eI))) aN)) sc_read_weekday_mark.nd)
   (ss1 (aaE (eIf (tCm afI (v_ 1) eN) eN (eMk ZZ.an (afX ZZ) hr (aC (v_ 1) aN)))))) ssN)
   (ssC (aaJ 2 (avO (v_ 0) (eSx [35])) sc_read_weekday_mark.nd)
   (ssC (sIf (tCm oNe (eCB as6 ZZ.ak PySem.boot_len (aC (v_ 2) aN)) eI) (ss1 (aaE eN)) ssN)
   (ssC (aaJ 1 (eD (ad9 ZZ) hr (aC (eIx xL (v_ 2) eI) aN)) sc_read_weekday_mark.nd)
   (ssC (aaJ 3 (eD (abF ZZ) hr (aC (eIx xL (v_ 2) eI) (aC eI (aC (eGl (v:=.int 5) ZZ.ea ⟨_,rfl⟩) aN)))) sc_read_weekday_mark.nd)
   (ssC (sIf (tW (wOr (tCm afI (v_ 1) eN) (alX (tCm afI (v_ 3) eN)))) (ss1 (aaE eN)) ssN)
   (ss1 (aaE (eMk ZZ.av (akQ ZZ) hr (aC (v_ 1) (aC (v_ 3) aN))))))))))),?_⟩
 have hz:t.length<=sizeLine:=by rw[dQ];omega
 have hc2:=ahB t none (some (-1))
 have hsl:=ahC 35 t
 have hml:=ab0 35 t
 refine⟨_,rfl,rfl,t,76,rfl,rfl,_,rfl,ifD (fun c=>?a0) (fun c1=>?a1)⟩
 case a0=>
  have e:aq0 t=(wdN (af2 t none (some (-1)))).map Mk.one:=by unfold aq0;rw[if_pos c]
  rw[e] at q
  refine⟨_,rfl,_,rfl,_,rfl,t,rfl,hz,_,rfl,(by omega),fun H1 s1=>?_⟩
  cases en:wdN (af2 t none (some (-1))) with
  |none=>
   rw[en] at q
   exact⟨_,rfl,rfl,_,rfl,ifT rfl (q _ _ s1 rfl)⟩
  |some b=>
   rw[en] at q
   exact⟨_,rfl,rfl,_,rfl,ifF rfl ⟨_,rfl,fun xo dx nx ndx nex=>⟨xo,dx,_,rfl,aaA,rfl,q _ _ (s1.trans (acY nx ndx)) ⟨xo,rfl,dx,aaA⟩⟩⟩⟩
 case a1=>
  refine⟨_,rfl,rfl,t,35,rfl,rfl,(by rw[dQ];omega),fun ps hps=>?_⟩
  have s0:=aaB hps (.lst ((spl 35 t).map fun q=>V.str (Tx q)))
  refine⟨_,rfl,ps,_,rfl,.inl (SqL.of aaA),rfl,_,rfl,?_⟩
  have two:(∃a b,spl 35 t=[a,b])∨(∀a b,spl 35 t≠[a,b]):=by
   by_cases z:∃a b,spl 35 t=[a,b]
   ·exact .inl z
   ·exact .inr fun r s e=>z ⟨r,s,e⟩
  rcases two with ⟨a,b,e2⟩ | hno
  ·have e:aq0 t=aDV (wdN a) (aaR 1 5 b):=by unfold aq0;rw[if_neg c1,e2]
   rw[e] at q
   have h1:=hml a (by rw[e2];simp)
   have h2:=hml b (by rw[e2];simp)
   rw[e2]
   refine ifF rfl ⟨_,rfl,ps,_,_,_,rfl,rfl,SqL.of aaA,rfl,a,rfl,(by omega),fun H1 s1=>?_⟩
   refine⟨_,rfl,ps,_,_,_,rfl,rfl,SqL.of (s1 _ _ aaA),rfl,b,1,5,rfl,(by omega),fun H2 s2=>?_⟩
   rw[e2] at s0
   cases ew:wdN a with
   |none=>
    rw[ew] at q
    exact⟨_,rfl,rfl,_,rfl,ifT rfl (q _ _ (s0.trans (s1.trans s2)) rfl)⟩
   |some wd=>
    rw[ew] at q
    refine⟨_,rfl,rfl,_,rfl,ifF rfl ⟨_,rfl,rfl,_,rfl,?_⟩⟩
    cases en:aaR 1 5 b with
    |none=>
     rw[en] at q
     exact ifT rfl (q _ _ (s0.trans (s1.trans s2)) rfl)
    |some m=>
     rw[en] at q
     exact ifF rfl ⟨_,rfl,_,rfl,fun xo dx nx ndx nex=>⟨xo,dx,_,_,rfl,aaA,rfl,q _ _ (s0.trans (s1.trans (s2.trans (ayW nx ndx)))) ⟨xo,rfl,dx,aaA⟩⟩⟩
  ·have hlen:¬(spl 35 t).length=2:=fun e=>by
    match h:spl 35 t,e with
    |[r,s],_=>exact hno r s h
   have e:aq0 t=none:=by
    unfold aq0
    rw[if_neg c1]
    split
    ·rename_i a b h
     exact absurd h (hno a b)
    ·rfl
   rw[e] at q
   refine ifT ?_ (q _ _ s0 rfl)
   rw[dY fun z=>hlen (by have z:=V.int.inj z;rw[aM] at z;omega)]
   rfl
theorem agA:Df P w K mg base "read_items" 7 ["text","low","high","read_mark"] (anB K aB aD aF aH aE aA aG aI aK aL):=by
 refine ZZ.da.dfs sc_read_items (fun vs H Q E h=>?_) (fun f cdv A outer s H vs Q E hr h=>?_)
 ·obtain⟨_,_,_,_,rfl,_⟩:=h
  rfl
 obtain⟨l,lo,hi,wk,rfl,hb,hok,q⟩:=h
 refine⟨_,(ssC (sIf (tW (wOr (tNo (tVa (eCB cIs ZZ.ad PyProof.Rows.boot_isinstance (aC (v_ 0) (aC (eTy ZZ.aa PyProof.Rows.boot_str) aN))))) (alX (tCm oGt (eCB ay4 ZZ.ak PySem.boot_len (aC (v_ 0) aN)) (eGl (v:=.int 300) ZZ.bf ⟨_,rfl⟩))))) (ss1 arL) ssN)
   (ssC (aaJ 4 (avO (v_ 0) (eSx [44])) sc_read_items.nd)
   (ssC (aaJ 5 eI sc_read_items.nd)
   (ssC (aaJ 6 (abR aN) sc_read_items.nd)
   (ssC (aeK (iE ZZ.a7 (eSl slL (v_ 4) poN (poS (eGl (v:=.int 40) ZZ.ap ⟨_,rfl⟩)))) (gTu (gsC (gN 7 sc_read_items.nd) (gsC (gN 8 sc_read_items.nd) gsN))) (ssC (aaJ 9 (eD (ahX ZZ) hr (aC (v_ 8) (aC (v_ 1) (aC (v_ 2) aN)))) sc_read_items.nd)
   (ss1 (sIf (tCm afI (v_ 9) eN) (ssC (aaJ 10 (agW (eDV ((ah3 ZZ).at_ ZZ.ba) hr (v_ 3) (aC (v_ 8) aN)) (eDV ((ae1 ZZ).at_ ZZ.a6) hr (v_ 3) (aC (v_ 8) aN))) sc_read_items.nd)
   (ssC (sIf (tW (wOr (tCm afI (v_ 10) eN) (alX (tCm oEq (eCB as6 ZZ.ak PySem.boot_len (aC (v_ 6) aN)) (eGl (v:=.int 20) ZZ.c3 ⟨_,rfl⟩))))) (ss1 arL) ssN)
   (ss1 (akD (akW (v_ 6) (v_ 10)))))) (ss1 (aaJ 5 (eOp oOr (v_ 5) (v_ 9)) sc_read_items.nd))))) PassesOwn.never)
   (ssC (sIf (tCm oGt (eCB as6 ZZ.ak PySem.boot_len (aC (v_ 4) aN)) (eGl (v:=.int 40) ZZ.ap ⟨_,rfl⟩)) (ss1 arL) ssN)
   (ss1 (aaE (aa5 (aC (v_ 5) (aC (v_ 6) aN))))))))))),?_⟩
 have hl:=hok.len
 have hml:=ab0 44 l
 refine⟨_,rfl,_,.str,.str,rfl,(by decide),rfl,_,rfl,ifF rfl ⟨_,rfl,l,rfl,(by rw[dQ];omega),_,_,rfl,rfl,_,rfl,?_⟩⟩
 rw[dY (show ¬(300:Int)<((l.length:Nat):Int) by omega)]
 refine aaX ⟨_,rfl,rfl,l,44,rfl,rfl,(by rw[dQ];omega),fun ps hps=>?_⟩
 have s0:=aaB hps (.lst ((spl 44 l).map fun q=>V.str (Tx q)))
 refine⟨(zL 0),fun mk hmk=>?_⟩
 have s1:=aaB hmk (.lst [])
 refine⟨_,rfl,_,rfl,ps,_,rfl,SqL.of (s1 _ _ aaA),fun pc hpc=>?_⟩
 have ecut:ae8 ((spl 44 l).map fun q=>V.str (Tx q)) none (some 40)=(spl 44 l).map fun q=>V.str (Tx q):=aC4 (by rw[aM];exact hok.few)
 rw[ecut]
 have hne:pc≠mk:=fun e=>by
  rw[e,aaA] at hpc
  cases hpc
 have s1b:=aaB hpc (.lst ((spl 44 l).map fun q=>V.str (Tx q)))
 refine⟨pc,rfl,⟨_,SqL.of aaA⟩,ar1 (K:=K) (a:=pc) (xs:=(spl 44 l).map fun q=>V.str (Tx q)) (fun i σ H2=>∃(u1 u2 u3 u4:Option V) (qs:List Addr),σ=[some (.str (Tx l)),some (.int lo),some (.int hi),some (.ref (if wk=true then aL else aK)),some (.ref ps),some (.int (orM (plP lo hi ((spl 44 l).take i)))),some (.ref mk),u1,u2,u3,u4]/\Same (upd H ps (.lst ((spl 44 l).map fun q=>V.str (Tx q)))) H2/\H2 pc=some (.lst ((spl 44 l).map fun q=>V.str (Tx q)))/\H2 mk=some (.lst (qs.map V.ref))/\Ft (MkAt (⟨aB,aD,aF,aH,aE,aA,aG,aI⟩:Cs) H2) qs (mkP wk lo hi ((spl 44 l).take i))) ⟨_,_,_,_,[],rfl,s1.trans s1b,aaA,s1b _ _ aaA,.nil⟩ (fun i σ H2 _ ⟨_,_,_,_,_,_,_,h,_⟩=>SqL.of h) ?turn ?done⟩
 case turn=>
  rintro i x σ H2 T hx ⟨u1,u2,u3,u4,qs,rfl,s2,h2c,h2m,hq⟩ hT
  rw[aY] at hx
  cases ew:(spl 44 l)[i]? with
  |none=>rw[ew] at hx;cases hx
  |some w0=>
   rw[ew] at hx
   obtain rfl:V.str (Tx w0)=x:=a8 hx
   have hw:=hml w0 (bH ew)
   refine⟨T,_,rfl,SqT.of aaA,rfl,_,_,rfl,_,_,rfl,rfl,?_⟩
   refine⟨_,rfl,_,rfl,_,rfl,w0,lo,hi,rfl,(by omega),hb,fun H3 s3=>?_⟩
   cases em:aaG lo hi w0 with
   |some m=>
    have et:(spl 44 l).take (i+1)=(spl 44 l).take i++[w0]:=by rw[bI,ew];rfl
    have s23:=(aaB hT _).trans s3
    refine⟨_,rfl,rfl,_,rfl,ifF rfl ⟨_,rfl,_,rfl,_,_,rfl,rfl,?_⟩⟩
    exact⟨_,_,_,_,qs,by rw[et,aB2 em,adP];rfl,s2.trans s23,s23 _ _ h2c,s23 _ _ h2m,by rw[et,aFX em];exact hq.keepM s23.keep⟩
   |none=>
    cases wk with
    |false=>
     have hso:(rdM false w0).isSome=true:=by
      rcases hok.all w0 (bH ew) with h | h
      ·rw[em] at h;cases h
      ·exact h
     obtain⟨k,ek⟩:=c6.mp hso
     have ek':adH w0=some k:=ek
     refine⟨_,rfl,rfl,_,rfl,ifT rfl ?_⟩
     refine .inl ⟨_,rfl,rfl,_,rfl,w0,rfl,(by omega),fun v H4 s4 hv=>?_⟩
     rw[ek'] at hv
     obtain⟨x,rfl,hx⟩:=hv
     have s24:=(aaB hT _).trans (s3.trans s4)
     have hq4:=hq.keepM s24.keep
     have lq:qs.length=(mkP false lo hi ((spl 44 l).take i)).length:=Paired.length hq
     have l1:=atO false lo hi (spl 44 l) (i+1)
     have et:(spl 44 l).take (i+1)=(spl 44 l).take i++[w0]:=by rw[bI,ew];rfl
     rw[et,ak1 em ek,aP,bL] at l1
     have hm20:=hok.most
     refine⟨_,rfl,rfl,_,rfl,ifF rfl ⟨_,rfl,mk,_,rfl,.inl (SqL.of (s24 _ _ h2m)),rfl,_,rfl,?_⟩⟩
     refine ifI (fun c=>?_) (fun c=>?_)
     ·rw[aM] at c
      omega
     refine⟨_,rfl,.inl ⟨rfl,_,SqL.of (s24 _ _ h2m)⟩,_,rfl,mk,_,_,rfl,rfl,s24 _ _ h2m,(by rw[aM,dQ];omega),?_⟩
     have kp:=ab3 (l':=qs.map V.ref++[.ref x]) (s24 _ _ h2m)
     exact⟨_,_,_,_,qs++[x],by rw[et,aAE em];rfl,aa4 hmk (s2.trans s24),by rw[aaH hne];exact s24 _ _ h2c,by rw[aT];exact aaA,by rw[et,ak1 em ek];exact Ft.app (hq4.keepM kp) (.cons (hx.keep kp) .nil)⟩
    |true=>
     have hso:(rdM true w0).isSome=true:=by
      rcases hok.all w0 (bH ew) with h | h
      ·rw[em] at h;cases h
      ·exact h
     obtain⟨k,ek⟩:=c6.mp hso
     have ek':aq0 w0=some k:=ek
     refine⟨_,rfl,rfl,_,rfl,ifT rfl ?_⟩
     refine .inr ⟨_,rfl,rfl,_,rfl,w0,rfl,(by omega),fun v H4 s4 hv=>?_⟩
     rw[ek'] at hv
     obtain⟨x,rfl,hx⟩:=hv
     have s24:=(aaB hT _).trans (s3.trans s4)
     have hq4:=hq.keepM s24.keep
     have lq:qs.length=(mkP true lo hi ((spl 44 l).take i)).length:=Paired.length hq
     have l1:=atO true lo hi (spl 44 l) (i+1)
     have et:(spl 44 l).take (i+1)=(spl 44 l).take i++[w0]:=by rw[bI,ew];rfl
     rw[et,ak1 em ek,aP,bL] at l1
     have hm20:=hok.most
     refine⟨_,rfl,rfl,_,rfl,ifF rfl ⟨_,rfl,mk,_,rfl,.inl (SqL.of (s24 _ _ h2m)),rfl,_,rfl,?_⟩⟩
     refine ifI (fun c=>?_) (fun c=>?_)
     ·rw[aM] at c
      omega
     refine⟨_,rfl,.inl ⟨rfl,_,SqL.of (s24 _ _ h2m)⟩,_,rfl,mk,_,_,rfl,rfl,s24 _ _ h2m,(by rw[aM,dQ];omega),?_⟩
     have kp:=ab3 (l':=qs.map V.ref++[.ref x]) (s24 _ _ h2m)
     exact⟨_,_,_,_,qs++[x],by rw[et,aAE em];rfl,aa4 hmk (s2.trans s24),by rw[aaH hne];exact s24 _ _ h2c,by rw[aT];exact aaA,by rw[et,ak1 em ek];exact Ft.app (hq4.keepM kp) (.cons (hx.keep kp) .nil)⟩
 case done=>
  rintro σ H2 ⟨u1,u2,u3,u4,qs,rfl,s2,h2c,h2m,hq⟩
  refine⟨_,rfl,ps,_,rfl,.inl (SqL.of (s2 _ _ aaA)),_,_,rfl,rfl,_,rfl,?_⟩
  have hfew:=hok.few
  rw[dY (show ¬(40:Int)<((((spl 44 l).map fun q=>V.str (Tx q)).length:Nat):Int) by rw[aM];omega)]
  rw[aM,bQ] at hq ⊢
  refine aaX ⟨_,rfl,_,rfl,(zL 2),fun p hp=>?_⟩
  have s3:=aaB hp (.tup [.int (orM (plP lo hi (spl 44 l))),.ref mk])
  exact q p mk qs _ (none_of s0 hmk) (s0.trans (s2.trans s3)) aaA (s3 _ _ h2m) (hq.keepM s3.keep)
theorem aqP:Df P w K mg base "read_days" 8 ["text"] (arP K aB aD aF aH aE aA aG aI):=by
 refine ZZ.dn.dfs sc_read_days (fun vs H Q E h=>?_) (fun f cdv A outer s H vs Q E hr h=>?_)
 ·obtain⟨_,rfl,_⟩:=h
  rfl
 obtain⟨l,rfl,hok,q1,q2⟩:=h
 refine⟨_,(ssC (aaJ 1 (eD (agA ZZ) hr (aC (v_ 0) (aC eI (aC (eGl (v:=.int 31) ZZ.bg ⟨_,rfl⟩) (aC (eGl (v:=.ref aK) ZZ.ba rfl) aN))))) sc_read_days.nd)
   (ssC (sIf (tCm oEq (v_ 0) (eSx [42])) (ss1 (aaE eN)) ssN)
   (ssC (sIf (tCm oEq (eIx xT (v_ 1) eI) eI) (ss1 (aaE (eIx xT (v_ 1) eI))) ssN)
   (ss1 (aaE (eOp anA (abR (aC (eMk ZZ.al (af3 ZZ) hr (aC (eIx xT (v_ 1) eI) aN)) aN)) (eIx xT (v_ 1) eI))))))),?_⟩
 refine⟨_,rfl,l,1,31,false,rfl,⟨by decide,by decide,by decide⟩,hok,fun p m qs H1 hmn s1 hp hm hq=>?_⟩
 have lq:qs.length<=20:=by
  have:=Paired.length hq
  have:=hok.most
  omega
 refine⟨_,rfl,rfl,_,rfl,ifX (fun c=>q1 c _ s1) (fun c=>?_)⟩
 have q2:=q2 c
 unfold amT at q2
 generalize mkP false 1 31 (spl 44 l)=ms at hq q2
 generalize orM (plP 1 31 (spl 44 l))=M at hp q2
 refine⟨_,rfl,p,_,_,_,rfl,rfl,SqT.of hp,rfl,rfl,_,rfl,ifI (fun c0=>⟨_,rfl,p,_,_,_,rfl,rfl,SqT.of hp,rfl,q2 m qs _ hmn s1 hm ?_⟩) (fun c0=>?_)⟩
 ·have e:af8 false M=[]:=by unfold af8;rw[if_pos c0]
  rw[e]
  exact hq
 have e:af8 false M=[.num M]:=by unfold af8;rw[if_neg c0];rfl
 rw[e] at q2
 refine⟨_,rfl,p,_,_,_,rfl,rfl,SqT.of hp,rfl,fun xo dx nx ndx nex=>⟨xo,dx,_,rfl,aaA,rfl,(zL 1),fun l1 hl1=>?_⟩⟩
 have n1:Same H1 (upd (upd (upd H1 dx (.own xo)) xo (.ins aB dx [])) xo (.ins aB dx [("mask",.int M)])):=acY nx ndx
 have n2:=n1.trans (aaB hl1 (.lst [.ref xo]))
 refine⟨_,rfl,p,_,_,_,rfl,rfl,SqT.of (n2 _ _ hp),rfl,l1,m,_,_,rfl,rfl,aaA,n2 _ _ hm,(by rw[aM,dQ];show 1+_<=_;omega),fun l2 hl2=>?_⟩
 have n3:=n2.trans (aaB hl2 (.lst ([.ref xo]++qs.map V.ref)))
 exact q2 l2 (xo::qs) _ (none_of (s1.trans n2) hl2) (s1.trans n3) aaA (.cons ⟨dx,(aaB hl2 _) _ _ ((aaB hl1 _) _ _ aaA)⟩ (hq.keepM n3.keep))
theorem ah5:Df P w K mg base "read_weekdays" 8 ["text"] (aiU K aB aD aF aH aE aA aG aI):=by
 refine ZZ.b1.dfs sc_read_weekdays (fun vs H Q E h=>?_) (fun f cdv A outer s H vs Q E hr h=>?_)
 ·obtain⟨_,rfl,_⟩:=h
  rfl
 obtain⟨l,rfl,hok,q1,q2⟩:=h
 refine⟨_,(ssC (aaJ 1 (eD (agA ZZ) hr (aC (v_ 0) (aC eI (aC (eGl (v:=.int 7) ZZ.aq ⟨_,rfl⟩) (aC (eGl (v:=.ref aL) ZZ.a6 rfl) aN))))) sc_read_weekdays.nd)
   (ssC (sIf (tCm oEq (v_ 0) (eSx [42])) (ss1 (aaE eN)) ssN)
   (ssC (sIf (tCm oEq (eIx xT (v_ 1) eI) eI) (ss1 (aaE (eIx xT (v_ 1) eI))) ssN)
   (ssC (aaJ 2 (eOp akF (eOp oOr (eIx xT (v_ 1) eI) (eOp alD (eIx xT (v_ 1) eI) (eGl (v:=.int 7) ZZ.aq ⟨_,rfl⟩))) (eGl (v:=.int 127) ZZ.b5 ⟨_,rfl⟩)) sc_read_weekdays.nd)
   (ss1 (aaE (eOp anA (abR (aC (eMk ZZ.ag (aeY ZZ) hr (aC (v_ 2) aN)) aN)) (eIx xT (v_ 1) eI)))))))),?_⟩
 refine⟨_,rfl,l,0,7,true,rfl,⟨by decide,by decide,by decide⟩,hok,fun p m qs H1 hmn s1 hp hm hq=>?_⟩
 have lq:qs.length<=20:=by
  have:=Paired.length hq
  have:=hok.most
  omega
 refine⟨_,rfl,rfl,_,rfl,ifX (fun c=>q1 c _ s1) (fun c=>?_)⟩
 have q2:=q2 c
 unfold amT at q2
 generalize mkP true 0 7 (spl 44 l)=ms at hq q2
 generalize orM (plP 0 7 (spl 44 l))=M at hp q2
 refine⟨_,rfl,p,_,_,_,rfl,rfl,SqT.of hp,rfl,rfl,_,rfl,ifI (fun c0=>⟨_,rfl,p,_,_,_,rfl,rfl,SqT.of hp,rfl,q2 m qs _ hmn s1 hm ?_⟩) (fun c0=>?_)⟩
 ·have e:af8 true M=[]:=by unfold af8;rw[if_pos c0]
  rw[e]
  exact hq
 have e:af8 true M=[.wkd (wk7 M)]:=by unfold af8;rw[if_neg c0];rfl
 rw[e] at q2
 refine⟨_,rfl,p,_,_,_,rfl,rfl,SqT.of hp,rfl,_,rfl,p,_,_,_,rfl,rfl,SqT.of hp,rfl,_,_,rfl,rfl,(by show (0:Int)<=7;decide),_,_,rfl,rfl,_,_,rfl,rfl,?_⟩
 refine⟨_,rfl,fun xo dx nx ndx nex=>⟨xo,dx,_,rfl,aaA,rfl,(zL 1),fun l1 hl1=>?_⟩⟩
 have n1:Same H1 (upd (upd (upd H1 dx (.own xo)) xo (.ins aE dx [])) xo (.ins aE dx [("mask",.int (wk7 M))])):=acY nx ndx
 have n2:=n1.trans (aaB hl1 (.lst [.ref xo]))
 refine⟨_,rfl,p,_,_,_,rfl,rfl,SqT.of (n2 _ _ hp),rfl,l1,m,_,_,rfl,rfl,aaA,n2 _ _ hm,(by rw[aM,dQ];show 1+_<=_;omega),fun l2 hl2=>?_⟩
 have n3:=n2.trans (aaB hl2 (.lst ([.ref xo]++qs.map V.ref)))
 exact q2 l2 (xo::qs) _ (none_of (s1.trans n2) hl2) (s1.trans n3) aaA (.cons ⟨dx,(aaB hl2 _) _ _ ((aaB hl1 _) _ _ aaA)⟩ (hq.keepM n3.keep))
theorem arS:Df P w K mg base "month_at" 3 ["kind"] (as0 K):=by
 refine ZZ.ek.dfs sc_month_at (fun vs H Q E h=>?_) (fun f cdv A outer s H vs Q E hr h=>?_)
 ·obtain⟨_,rfl,_⟩:=h
  rfl
 obtain⟨k,rfl,hk,q⟩:=h
 refine⟨_,(ssC (aaJ 1 (eOp aeQ (v_ 0) eI) sc_month_at.nd)
   (ssC (aaJ 2 (eOp aa7 (v_ 0) eI) sc_month_at.nd)
   (ssC (sIf (tCm oEq (v_ 1) (eGl (v:=.int 12) ZZ.be ⟨_,rfl⟩)) (ss1 (aaE (aa5 (aC eI (aC (eGl (v:=.int 29) ZZ.dg ⟨_,rfl⟩) (aC (v_ 2) aN)))))) ssN)
   (ss1 (aaE (aa5 (aC (eOp aaM (v_ 1) eI) (aC (eD (ac0 ZZ) hr (aC (eGl (v:=.int 1) ZZ.c4 ⟨_,rfl⟩) (aC (eOp aaM (v_ 1) eI) aN))) (aC (v_ 2) aN))))))))),?_⟩
 refine⟨_,rfl,_,_,rfl,rfl,⟨by decide,by decide⟩,?_⟩
 refine⟨_,rfl,_,_,rfl,rfl,(by show (0:Int)<7;decide),?_⟩
 refine⟨_,rfl,rfl,_,rfl,ifI (fun c=>?_) (fun c=>?_)⟩
 ·refine⟨_,rfl,(zL 3),fun p hp=>?_⟩
  exact q p _ (aaB hp _) (by unfold alC;rw[if_pos c];exact aaA)
 ·refine⟨_,rfl,_,_,rfl,rfl,_,rfl,_,_,rfl,rfl,_,_,rfl,⟨by omega,by omega⟩,_,rfl,(zL 3),fun p hp=>?_⟩
  exact q p _ (aaB hp _) (by unfold alC;rw[if_neg c];exact aaA)
theorem ar5:Df P w K mg base "times_of" 3 ["hours","minutes"] (asK K):=by
 refine ZZ.el.dfs sc_times_of (fun vs H Q E h=>?_) (fun f cdv A outer s H vs Q E hr h=>?_)
 ·obtain⟨_,_,rfl,_⟩:=h
  rfl
 obtain⟨h,m,rfl,hh,hm,q⟩:=h
 refine⟨_,(ssC (aaJ 2 eI sc_times_of.nd)
   (ssC (aeK (iL (eD (anN ZZ) hr (aC (v_ 0) aN))) (gN 3 sc_times_of.nd) (ss1 (aaJ 2 (eOp oOr (v_ 2) (eOp af4 (v_ 1) (eOp adR (eGl (v:=.int 60) ZZ.a0 ⟨_,rfl⟩) (v_ 3)))) sc_times_of.nd)) PassesOwn.never)
   (ss1 (aaE (v_ 2))))),?_⟩
 have bh:=ak2 hh.1 hh.2
 have bm:=ak2 hm.1 hm.2
 refine⟨_,rfl,h,rfl,⟨hh.1,by omega⟩,fun p H1 s1 h1=>⟨p,rfl,⟨_,SqL.of h1⟩,abT (K:=K) (a:=p) (xs:=(atJ h).map V.int) (fun i σ H2=>∃(v3:Option V),σ=[some (.int h),some (.int m),some (.int (orM (((atJ h).take i).map fun z=>m*2^(60*z).toNat))),v3]/\Same H1 H2) ⟨_,rfl,Same.refl _⟩ (fun i σ H2 _ ⟨_,_,s2⟩=>SqL.of (s2 _ _ h1)) ?turn ?done⟩⟩
 case done=>
  rintro σ H2 ⟨v3,rfl,s2⟩
  rw[aM,bQ]
  exact⟨_,rfl,q _ H2 rfl (s1.trans s2)⟩
 case turn=>
  rintro i x σ H2 hx ⟨v3,rfl,s2⟩
  rw[aY] at hx
  cases ez:(atJ h)[i]? with
  |none=>rw[ez] at hx;cases hx
  |some z=>
   rw[ez] at hx
   obtain rfl:V.int z=x:=a8 hx
   have et:orM (((atJ h).take (i+1)).map fun z=>m*2^(60*z).toNat)=Builtin.bitOr (orM (((atJ h).take i).map fun z=>m*2^(60*z).toNat)) (m*2^(60*z).toNat):=by rw[bI,ez,aT];exact adP _ _
   rw[et]
   have hz:=bH ez
   rw[aBZ hh.1 hh.2] at hz
   obtain⟨n,hn,_,rfl⟩:=flt_mem.mp hz
   refine⟨_,rfl,_,rfl,_,rfl,_,_,rfl,rfl,.inl ⟨by decide,by decide⟩,_,_,rfl,rfl,⟨?_,?_,?_⟩,_,_,rfl,rfl,?_⟩
   ·omega
   ·omega
   ·omega
   ·exact⟨_,rfl,s2⟩
theorem auN:Df P w K mg base "days_by" 5 ["days","weekdays","last","first"] (auD K aB aD aF aH aE aA aG aI):=by
 refine ZZ.ez.dfs sc_days_by (fun vs H Q E h=>?_) (fun f cdv A outer s H vs Q E hr h=>?_)
 ·obtain⟨_,_,_,_,_,_,rfl,_⟩:=h
  rfl
 obtain⟨dv,wv,kd,kw,l,fi,rfl,hd,hw,hlf,q⟩:=h
 refine⟨_,(ssC (sIf (tW (aqU (tCm afI (v_ 0) eN) (ajE (tCm afI (v_ 1) eN)))) (ss1 (aaE (eD (afJ ZZ) hr (aC (v_ 2) aN)))) ssN)
   (ssC (aaJ 4 eI sc_days_by.nd)
   (ssC (aeK (iT (aa5 (aC (v_ 0) (aC (v_ 1) aN)))) (gN 5 sc_days_by.nd) (ss1 (sIf (tCm aDG (v_ 5) eN) (ss1 (aaJ 4 (eOp oOr (v_ 4) (eD (atF ZZ) hr (aC (v_ 5) (aC (v_ 2) (aC (v_ 3) aN))))) sc_days_by.nd)) ssN)) PassesOwn.never)
   (ss1 (aaE (v_ 4)))))),?_⟩
 have loop:kd.isNone=false∨kw.isNone=false->ab1 kd kw l fi=orO kw (orO kd 0 l fi) l fi:=fun h=>by
  unfold ab1
  rw[if_neg]
  rintro⟨h1,h2⟩
  rcases h with h | h
  ·rw[h] at h1;cases h1
  ·rw[h] at h2;cases h2
 cases kd with
 |none=>
  have ed:dv=.non:=hd
  subst ed
  cases kw with
  |none=>
   have ew:wv=.non:=hw
   subst ew
   refine⟨_,rfl,rfl,_,rfl,?_⟩
   show if decide (V.non=V.non)=true then _ else _
   rw[dU rfl]
   refine abH ⟨_,rfl,rfl,_,rfl,?_⟩
   show if decide (V.non=V.non)=true then _ else _
   rw[dU rfl]
   exact abH ⟨_,rfl,l,rfl,hlf.1,q H (Same.refl _)⟩
  |some kw=>
   rw[loop (.inr rfl)] at q
   refine⟨_,rfl,rfl,_,rfl,?_⟩
   show if decide (V.non=V.non)=true then _ else _
   rw[dU rfl]
   obtain⟨pw,qw,rfl,lw,fw,ow⟩:=hw
   refine abH ⟨_,rfl,rfl,_,rfl,aaX ?_⟩
   refine⟨_,rfl,_,rfl,(zL 2),fun tt ht=>⟨tt,rfl,⟨_,SqT.of aaA⟩,ak4 (K:=K) (a:=tt) (xs:=[V.non,(V.ref pw)]) (fun i σ H2=>∃v5:Option V,σ=[some V.non,some (V.ref pw),some (.int l),some (.int fi),some (.int (match i with | 0=>0 | 1=>orO none 0 l fi | _=>orO (some kw) (orO none 0 l fi) l fi)),v5]/\Same (upd H tt (.tup [V.non,(V.ref pw)])) H2) ⟨_,rfl,Same.refl _⟩ (fun i σ H2 _ ⟨_,_,s2⟩=>SqT.of (s2 _ _ aaA)) ?turn ?done⟩⟩
   case done=>
    rintro σ H2 ⟨v5,rfl,s2⟩
    exact⟨_,rfl,q H2 ((aaB ht _).trans s2)⟩
   case turn=>
    rintro i x σ H2 hx ⟨v5,rfl,s2⟩
    have sA:=(aaB ht (.tup [V.non,(V.ref pw)])).trans s2
    match i,hx with
    |0,hx=>
     cases hx
     refine⟨_,rfl,rfl,_,rfl,?_⟩
     show if (!decide (V.non=V.non))=true then _ else _
     rw[dU rfl]
     exact aaX ⟨_,rfl,s2⟩
    |1,hx=>
     cases hx
     exact⟨_,rfl,rfl,_,rfl,abH ⟨_,rfl,_,rfl,_,rfl,_,rfl,pw,qw,kw,l,fi,rfl,SqL.of (sA _ _ lw),fw.keepM sA.keep,ow,hlf,_,_,rfl,rfl,⟨_,rfl,s2⟩⟩⟩
    |i+2,hx=>cases hx
 |some kd=>
  rw[loop (.inl rfl)] at q
  obtain⟨pd,qd,rfl,ld,fd,od⟩:=hd
  refine⟨_,rfl,rfl,_,rfl,aaX ?_⟩
  cases kw with
  |none=>
   have ew:wv=.non:=hw
   subst ew
   refine⟨_,rfl,_,rfl,(zL 2),fun tt ht=>⟨tt,rfl,⟨_,SqT.of aaA⟩,ak4 (K:=K) (a:=tt) (xs:=[(V.ref pd),V.non]) (fun i σ H2=>∃v5:Option V,σ=[some (V.ref pd),some V.non,some (.int l),some (.int fi),some (.int (match i with | 0=>0 | 1=>orO (some kd) 0 l fi | _=>orO none (orO (some kd) 0 l fi) l fi)),v5]/\Same (upd H tt (.tup [(V.ref pd),V.non])) H2) ⟨_,rfl,Same.refl _⟩ (fun i σ H2 _ ⟨_,_,s2⟩=>SqT.of (s2 _ _ aaA)) ?turn ?done⟩⟩
   case done=>
    rintro σ H2 ⟨v5,rfl,s2⟩
    exact⟨_,rfl,q H2 ((aaB ht _).trans s2)⟩
   case turn=>
    rintro i x σ H2 hx ⟨v5,rfl,s2⟩
    have sA:=(aaB ht (.tup [(V.ref pd),V.non])).trans s2
    match i,hx with
    |0,hx=>
     cases hx
     exact⟨_,rfl,rfl,_,rfl,abH ⟨_,rfl,_,rfl,_,rfl,_,rfl,pd,qd,kd,l,fi,rfl,SqL.of (sA _ _ ld),fd.keepM sA.keep,od,hlf,_,_,rfl,rfl,⟨_,rfl,s2⟩⟩⟩
    |1,hx=>
     cases hx
     refine⟨_,rfl,rfl,_,rfl,?_⟩
     show if (!decide (V.non=V.non))=true then _ else _
     rw[dU rfl]
     exact aaX ⟨_,rfl,s2⟩
    |i+2,hx=>cases hx
  |some kw=>
   obtain⟨pw,qw,rfl,lw,fw,ow⟩:=hw
   refine⟨_,rfl,_,rfl,(zL 2),fun tt ht=>⟨tt,rfl,⟨_,SqT.of aaA⟩,ak4 (K:=K) (a:=tt) (xs:=[(V.ref pd),(V.ref pw)]) (fun i σ H2=>∃v5:Option V,σ=[some (V.ref pd),some (V.ref pw),some (.int l),some (.int fi),some (.int (match i with | 0=>0 | 1=>orO (some kd) 0 l fi | _=>orO (some kw) (orO (some kd) 0 l fi) l fi)),v5]/\Same (upd H tt (.tup [(V.ref pd),(V.ref pw)])) H2) ⟨_,rfl,Same.refl _⟩ (fun i σ H2 _ ⟨_,_,s2⟩=>SqT.of (s2 _ _ aaA)) ?turn ?done⟩⟩
   case done=>
    rintro σ H2 ⟨v5,rfl,s2⟩
    exact⟨_,rfl,q H2 ((aaB ht _).trans s2)⟩
   case turn=>
    rintro i x σ H2 hx ⟨v5,rfl,s2⟩
    have sA:=(aaB ht (.tup [(V.ref pd),(V.ref pw)])).trans s2
    match i,hx with
    |0,hx=>
     cases hx
     exact⟨_,rfl,rfl,_,rfl,abH ⟨_,rfl,_,rfl,_,rfl,_,rfl,pd,qd,kd,l,fi,rfl,SqL.of (sA _ _ ld),fd.keepM sA.keep,od,hlf,_,_,rfl,rfl,⟨_,rfl,s2⟩⟩⟩
    |1,hx=>
     cases hx
     exact⟨_,rfl,rfl,_,rfl,abH ⟨_,rfl,_,rfl,_,rfl,_,rfl,pw,qw,kw,l,fi,rfl,SqL.of (sA _ _ lw),fw.keepM sA.keep,ow,hlf,_,_,rfl,rfl,⟨_,rfl,s2⟩⟩⟩
    |i+2,hx=>cases hx
theorem aj1:DfM P w K mg base aJ "__init__" 4 ["self","fields"] (akB K aJ):=by
 refine ZZ.cd.dfs akI (fun vs H Q E h=>?_) (fun f cdv A outer s H vs Q E hr h=>?_)
 ·obtain⟨_,_,_,_,_,_,_,_,rfl,_⟩:=h
  rfl
 obtain⟨p,dx,fa,m0,m1,m3,dv,wv,rfl,hp,hf,h0,h1,q⟩:=h
 refine⟨_,(ssC (sFl (v_ 0) (eIx xL (v_ 1) (eGl (v:=.int 0) ZZ.bp ⟨_,rfl⟩)))
   (ssC (sFl (v_ 0) (eIx xL (v_ 1) (eGl (v:=.int 1) ZZ.c5 ⟨_,rfl⟩)))
   (ssC (sFl (v_ 0) (eIx xL (v_ 1) (eGl (v:=.int 2) ZZ.eb ⟨_,rfl⟩)))
   (ssC (sFl (v_ 0) (eIx xL (v_ 1) (eGl (v:=.int 3) ZZ.b6 ⟨_,rfl⟩)))
   (ssC (sFl (v_ 0) (eIx xL (v_ 1) (eGl (v:=.int 4) ZZ.bk ⟨_,rfl⟩)))
   (ss1 (sFl (v_ 0) (eD (ar5 ZZ) hr (aC (eFl (v_ 0)) (aC (eFl (v_ 0)) aN)))))))))),?_⟩
 have hfp:fa≠p:=fun e=>by rw[e,hp] at hf;cases hf
 have g0:H fa=some (.lst [.int m0,.int m1,dv,.int m3,wv]):=hf
 have g1:(upd H p (.ins aJ dx (aaQ "minute_mask" (.int m0) []))) fa=some (.lst [.int m0,.int m1,dv,.int m3,wv]):=by rw[aaH hfp];exact g0
 have g2:(upd (upd H p (.ins aJ dx (aaQ "minute_mask" (.int m0) []))) p (.ins aJ dx (aaQ "hour_mask" (.int m1) (aaQ "minute_mask" (.int m0) [])))) fa=some (.lst [.int m0,.int m1,dv,.int m3,wv]):=by rw[aaH hfp];exact g1
 have g3:(upd (upd (upd H p (.ins aJ dx (aaQ "minute_mask" (.int m0) []))) p (.ins aJ dx (aaQ "hour_mask" (.int m1) (aaQ "minute_mask" (.int m0) [])))) p (.ins aJ dx (aaQ "day_marks" dv (aaQ "hour_mask" (.int m1) (aaQ "minute_mask" (.int m0) []))))) fa=some (.lst [.int m0,.int m1,dv,.int m3,wv]):=by rw[aaH hfp];exact g2
 have g4:(upd (upd (upd (upd H p (.ins aJ dx (aaQ "minute_mask" (.int m0) []))) p (.ins aJ dx (aaQ "hour_mask" (.int m1) (aaQ "minute_mask" (.int m0) [])))) p (.ins aJ dx (aaQ "day_marks" dv (aaQ "hour_mask" (.int m1) (aaQ "minute_mask" (.int m0) []))))) p (.ins aJ dx (aaQ "month_mask" (.int m3) (aaQ "day_marks" dv (aaQ "hour_mask" (.int m1) (aaQ "minute_mask" (.int m0) [])))))) fa=some (.lst [.int m0,.int m1,dv,.int m3,wv]):=by rw[aaH hfp];exact g3
 have g5:(upd (upd (upd (upd (upd H p (.ins aJ dx (aaQ "minute_mask" (.int m0) []))) p (.ins aJ dx (aaQ "hour_mask" (.int m1) (aaQ "minute_mask" (.int m0) [])))) p (.ins aJ dx (aaQ "day_marks" dv (aaQ "hour_mask" (.int m1) (aaQ "minute_mask" (.int m0) []))))) p (.ins aJ dx (aaQ "month_mask" (.int m3) (aaQ "day_marks" dv (aaQ "hour_mask" (.int m1) (aaQ "minute_mask" (.int m0) [])))))) p (.ins aJ dx (aaQ "weekday_marks" wv (aaQ "month_mask" (.int m3) (aaQ "day_marks" dv (aaQ "hour_mask" (.int m1) (aaQ "minute_mask" (.int m0) []))))))) fa=some (.lst [.int m0,.int m1,dv,.int m3,wv]):=by rw[aaH hfp];exact g4
 have l5:∀(f:Str) (v:V),(ac9 m0 m1 dv m3 wv 0).lookup f=some v->f≠"time_mask"->(aaQ "weekday_marks" wv (aaQ "month_mask" (.int m3) (aaQ "day_marks" dv (aaQ "hour_mask" (.int m1) (aaQ "minute_mask" (.int m0) []))))).lookup f=some v:=fun f v h hne=>by
  unfold ac9 at h
  rw[aaD,if_neg hne] at h
  exact h
 refine⟨_,rfl,fa,_,_,_,rfl,rfl,SqL.of g0,rfl,_,rfl,p,aJ,dx,_,rfl,hp,ZZ.ac.cl,ZZ.ae,(by show 0<1000;decide),_,rfl,fa,_,_,_,rfl,rfl,SqL.of g1,rfl,_,rfl,p,aJ,dx,_,rfl,aaA,ZZ.ac.cl,ZZ.ah,(by show 1<1000;decide),_,rfl,fa,_,_,_,rfl,rfl,SqL.of g2,rfl,_,rfl,p,aJ,dx,_,rfl,aaA,ZZ.ac.cl,ZZ.aw,(by show 2<1000;decide),_,rfl,fa,_,_,_,rfl,rfl,SqL.of g3,rfl,_,rfl,p,aJ,dx,_,rfl,aaA,ZZ.ac.cl,ZZ.af,(by show 3<1000;decide),_,rfl,fa,_,_,_,rfl,rfl,SqL.of g4,rfl,_,rfl,p,aJ,dx,_,rfl,aaA,ZZ.ac.cl,ZZ.ai,(by show 4<1000;decide),_,rfl,p,aJ,dx,_,_,rfl,aaA,ZZ.ac.cl,ZZ.ah,l5 _ _ (acZ ..) (by decide +kernel),_,rfl,p,aJ,dx,_,_,rfl,aaA,ZZ.ac.cl,ZZ.ae,l5 _ _ (acA ..) (by decide +kernel),m1,m0,rfl,h1,h0,fun t HT ht sT=>?_⟩
 refine⟨_,rfl,p,aJ,dx,_,rfl,sT _ _ aaA,ZZ.ac.cl,ZZ.bu,(by show 5<1000;decide),q t _ ht aaA fun b o hb hne=>?_⟩
 rw[aaH hne]
 refine sT _ _ ?_
 rw[aaH hne,aaH hne,aaH hne,aaH hne,aaH hne]
 exact hb
theorem am5:DfM P w K mg base aJ "days_in" 6 ["self","kind"] (amP K aJ aB aD aF aH aE aA aG aI):=by
 refine ZZ.cs.dfs sc_Row_days_in (fun vs H Q E h=>?_) (fun f cdv A outer s H vs Q E hr h=>?_)
 ·obtain⟨_,_,_,_,_,_,_,_,_,_,_,rfl,_⟩:=h
  rfl
 obtain⟨p,dx,m0,m1,m3,tm,k,dv,wv,kd,kw,rfl,hp,hk,hm,hd,hw,q⟩:=h
 refine⟨_,(ssC (aaJ 2 (eD (arS ZZ) hr (aC (v_ 1) aN)) sc_Row_days_in.nd)
   (ssC (sIf (tNo (tVa (eD (ad3 ZZ) hr (aC (eFl (v_ 0)) (aC (eIx xT (v_ 2) eI) aN))))) (ss1 (aaE eI)) ssN)
   (ss1 (aaE (eD (auN ZZ) hr (aC (eFl (v_ 0)) (aC (eFl (v_ 0)) (aC (eIx xT (v_ 2) eI) (aC (eIx xT (v_ 2) eI) aN))))))))),?_⟩
 have ml:=av4 hk.1 hk.2
 refine⟨_,rfl,k,rfl,hk,fun t H1 s1 h1=>?_⟩
 rw[arY] at h1
 have hp1:=s1 _ _ hp
 refine⟨_,rfl,p,aJ,dx,_,_,rfl,hp1,ZZ.ac.cl,ZZ.af,acL ..,_,rfl,t,_,_,_,rfl,rfl,SqT.of h1,rfl,m3,mnA k,rfl,⟨hm,by omega⟩,_,rfl,?_⟩
 by_cases c:tb m3 (mnA k).toNat=true
 ·rw[if_pos c] at q
  rw[c]
  refine aaX ⟨_,rfl,p,aJ,dx,_,_,rfl,hp1,ZZ.ac.cl,ZZ.aw,aeO ..,_,rfl,p,aJ,dx,_,_,rfl,hp1,ZZ.ac.cl,ZZ.ai,adA ..,_,rfl,t,_,_,_,rfl,rfl,SqT.of h1,rfl,_,rfl,t,_,_,_,rfl,rfl,SqT.of h1,rfl,dv,wv,kd,kw,lnA k,k%7,rfl,hd.keep s1,hw.keep s1,ml.2,fun H' s'=>q H' (s1.trans s')⟩
 ·have c':tb m3 (mnA k).toNat=false:=by simpa using c
  rw[if_neg c] at q
  rw[c']
  exact abH (q H1 s1)
theorem aqR:Df P w K mg base "read_word" 9 ["word","place"] (aqB K aB aD aF aH aE aA aG aI):=by
 refine ZZ.dp.dfs sc_read_word (fun vs H Q E h=>?_) (fun f cdv A outer s H vs Q E hr h=>?_)
 ·obtain⟨_,_,rfl,_⟩:=h
  rfl
 obtain⟨t,pl,rfl,h⟩:=h
 refine⟨_,(ssC (sIf (tCm oEq (v_ 1) (eGl (v:=.int 2) ZZ.eb ⟨_,rfl⟩)) (ss1 (aaE (eD (aqP ZZ) hr (aC (v_ 0) aN)))) ssN)
   (ssC (sIf (tCm oEq (v_ 1) (eGl (v:=.int 4) ZZ.bk ⟨_,rfl⟩)) (ss1 (aaE (eD (ah5 ZZ) hr (aC (v_ 0) aN)))) ssN)
   (ssC (aaJ 2 (aHD (eGl (v:=.ref a_BOUNDS) ZZ.bq rfl) (v_ 1)) sc_read_word.nd)
   (ss1 (aaE (eD (anL ZZ) hr (aC (v_ 0) (aC (eIx xT (v_ 2) eI) (aC (eIx xT (v_ 2) eI) aN))))))))),?_⟩
 rcases h with ⟨rfl,ko,hT,q⟩ | ⟨rfl,ko,hT,q⟩ | ⟨lo,hi,m,hp,hT,q⟩
 ·cases ko with
  |none=>
   have et:t=[42]:=hT.2.2
   exact⟨_,rfl,rfl,_,rfl,ifI (fun _=>⟨_,rfl,t,rfl,hT.2.1,(fun _ H' s'=>q _ H' s' rfl (fun p e=>nomatch e)),(fun c=>absurd et c)⟩) (fun c=>absurd rfl c)⟩
  |some ks=>
   exact⟨_,rfl,rfl,_,rfl,ifI (fun _=>⟨_,rfl,t,rfl,hT.2.1,(fun e=>absurd e hT.2.2.1),(fun _ m qs H' hm s' hl hF=>q _ H' s' ⟨m,qs,rfl,hl,by rw[←hT.2.2.2.2];exact hF,fun k hk=>(aeZ hT.2.2.2.1 k hk).2.2⟩ (fun p e=>by cases e;exact hm))⟩) (fun c=>absurd rfl c)⟩
 ·cases ko with
  |none=>
   have et:t=[42]:=hT.2.2
   exact⟨_,rfl,rfl,_,rfl,ifI (fun c=>absurd c (by decide)) (fun _=>⟨_,rfl,rfl,_,rfl,ifI (fun _=>⟨_,rfl,t,rfl,hT.2.1,(fun _ H' s'=>q _ H' s' rfl (fun p e=>nomatch e)),(fun c=>absurd et c)⟩) (fun c=>absurd rfl c)⟩)⟩
  |some ks=>
   exact⟨_,rfl,rfl,_,rfl,ifI (fun c=>absurd c (by decide)) (fun _=>⟨_,rfl,rfl,_,rfl,ifI (fun _=>⟨_,rfl,t,rfl,hT.2.1,(fun e=>absurd e hT.2.2.1),(fun _ m qs H' hm s' hl hF=>q _ H' s' ⟨m,qs,rfl,hl,by rw[←hT.2.2.2.2];exact hF,fun k hk=>(aeZ hT.2.2.2.1 k hk).2.2⟩ (fun p e=>by cases e;exact hm))⟩) (fun c=>absurd rfl c)⟩)⟩
 ·have hl:=hT.len
  have hne:pl≠2/\pl≠4:=by omega
  rcases hp with ⟨rfl,rfl,rfl⟩ | ⟨rfl,rfl,rfl⟩ | ⟨rfl,rfl,rfl⟩
  ·exact⟨_,rfl,rfl,_,rfl,ifI (fun c=>absurd c (by decide)) (fun _=>⟨_,rfl,rfl,_,rfl,ifI (fun c=>absurd c (by decide)) (fun _=>⟨_,rfl,a_BOUNDS,_,_,_,rfl,ZZ.ar,rfl,rfl,_,rfl,_,rfl,a_BOUNDS_0,_,_,_,rfl,rfl,ZZ.a2 _,rfl,_,rfl,a_BOUNDS_0,_,_,_,rfl,rfl,ZZ.a2 _,rfl,t,_,_,rfl,hl,⟨by decide,by decide,by decide⟩,hT.ok,fun H' s'=>by rw[hT.is];exact q H' s'⟩)⟩)⟩
  ·exact⟨_,rfl,rfl,_,rfl,ifI (fun c=>absurd c (by decide)) (fun _=>⟨_,rfl,rfl,_,rfl,ifI (fun c=>absurd c (by decide)) (fun _=>⟨_,rfl,a_BOUNDS,_,_,_,rfl,ZZ.ar,rfl,rfl,_,rfl,_,rfl,a_BOUNDS_1,_,_,_,rfl,rfl,ZZ.a3 _,rfl,_,rfl,a_BOUNDS_1,_,_,_,rfl,rfl,ZZ.a3 _,rfl,t,_,_,rfl,hl,⟨by decide,by decide,by decide⟩,hT.ok,fun H' s'=>by rw[hT.is];exact q H' s'⟩)⟩)⟩
  ·exact⟨_,rfl,rfl,_,rfl,ifI (fun c=>absurd c (by decide)) (fun _=>⟨_,rfl,rfl,_,rfl,ifI (fun c=>absurd c (by decide)) (fun _=>⟨_,rfl,a_BOUNDS,_,_,_,rfl,ZZ.ar,rfl,rfl,_,rfl,_,rfl,a_BOUNDS_3,_,_,_,rfl,rfl,ZZ.a4 _,rfl,_,rfl,a_BOUNDS_3,_,_,_,rfl,rfl,ZZ.a4 _,rfl,t,_,_,rfl,hl,⟨by decide,by decide,by decide⟩,hT.ok,fun H' s'=>by rw[hT.is];exact q H' s'⟩)⟩)⟩
theorem avG:Df P w K mg base "read_at" 10 ["word","place"] (avS K aB aD aF aH aE aA aG aI):=by
 refine ZZ.e0.dfs auP (fun vs H Q E h=>?_) (fun f cdv A outer s H vs Q E hr h=>?_)
 ·obtain⟨_,_,rfl,_⟩:=h
  rfl
 obtain⟨t,pl,rfl,h⟩:=h
 refine⟨_,(ss1 (aMU (ss1 (aaE (eD (aqR ZZ) hr (aC (v_ 0) (aC (v_ 1) aN))))))),?_⟩
 exact⟨_,rfl,_,rfl,t,pl,rfl,h⟩
theorem ai2:Df P w K mg base "read_row" 11 ["text"] (asC K aB aD aF aH aE aA aG aI aJ):=by
 refine ZZ.em.dfs sc_read_row (fun vs H Q E h=>?_) (fun f cdv A outer s H vs Q E hr h=>?_)
 ·obtain⟨_,_,_,_,_,_,_,_,_,_,rfl,_⟩:=h
  rfl
 obtain⟨w0,w1,w2,w3,w4,m0,m1,m3,kd,kw,rfl,f0,f1,f3,d2,d4,hb,q⟩:=h
 refine⟨_,(ssC (sIf (tW (wOr (tNo (tVa (eCB cIs ZZ.ad PyProof.Rows.boot_isinstance (aC (v_ 0) (aC (eTy ZZ.aa PyProof.Rows.boot_str) aN))))) (alX (tCm oGt (eCB ay4 ZZ.ak PySem.boot_len (aC (v_ 0) aN)) (eGl (v:=.int 1600) ZZ.br ⟨_,rfl⟩))))) (ss1 arL) ssN)
   (ssC (aaJ 1 (avO (v_ 0) (eSx [32])) sc_read_row.nd)
   (ssC (sIf (tW (wOr (tCm oNe (eCB as6 ZZ.ak PySem.boot_len (aC (v_ 1) aN)) (eGl (v:=.int 5) ZZ.ec ⟨_,rfl⟩)) (alX (tCm oIn (eSx []) (v_ 1))))) (ss1 arL) ssN)
   (ss1 (aaE (eMk ZZ.ac (aj1 ZZ) hr (aC (aA7 ["place","word"] [] [] (iE ZZ.a7 (v_ 1)) (fun _ _ _ _ _ _=>aHW (K:=K) (n:=2) (gsC (gN 0 (show ((["place","word"]:List Str)++([]:List Str)).Nodup by decide +kernel)) (gsC (gN 1 (show ((["place","word"]:List Str)++([]:List Str)).Nodup by decide +kernel)) gsN))) (fun _ _ _ _ _ _=>fsN) (fun _ _ _ _ _ _=>(eD (avG ZZ) hr (aC (v_ 1) (aC (v_ 0) aN))))) aN))))))),?_⟩
 have n32:∀w∈[w0,w1,w2,w3,w4],32∉w:=fun w hw=>by
  simp only[aR,cB,or_false] at hw
  rcases hw with rfl | rfl | rfl | rfl | rfl
  ·exact f0.sp
  ·exact f1.sp
  ·exact d2.1.1
  ·exact f3.sp
  ·exact d4.1.1
 have nn:∀w∈[w0,w1,w2,w3,w4],w≠[]:=fun w hw=>by
  simp only[aR,cB,or_false] at hw
  rcases hw with rfl | rfl | rfl | rfl | rfl
  ·exact f0.ne
  ·exact f1.ne
  ·exact d2.1.2
  ·exact f3.ne
  ·exact d4.1.2
 have hs:=acG 32 [w0,w1,w2,w3,w4] (dD _ _) n32
 obtain⟨L,eL⟩:∃L,L=aaK 32 [w0,w1,w2,w3,w4]:=⟨_,rfl⟩
 have hl:L.length<=1600:=by
  have:=f0.len
  have:=f1.len
  have:=f3.len
  have:=d2.2.1.len
  have:=d4.2.1.len
  rw[eL]
  show (w0++32::(w1++32::(w2++32::(w3++32::w4)))).length<=1600
  simp only[aP,bF]
  omega
 rw[←eL] at hs ⊢
 refine⟨_,rfl,_,.str,.str,rfl,(by decide),rfl,_,rfl,ifF rfl ⟨_,rfl,L,rfl,(by rw[dQ];omega),_,_,rfl,rfl,_,rfl,?_⟩⟩
 rw[dY (show ¬(1600:Int)<((L.length:Nat):Int) by omega)]
 refine aaX ⟨_,rfl,rfl,L,32,rfl,rfl,(by rw[dQ];omega),fun ps hps=>?_⟩
 rw[hs]
 have s0:=aaB hps (.lst ([w0,w1,w2,w3,w4].map fun q=>V.str (Tx q)))
 refine⟨_,rfl,ps,_,rfl,.inl (SqL.of aaA),rfl,_,rfl,ifNe rfl ⟨_,rfl,ps,_,rfl,.inl (SqL.of aaA),rfl,rfl,_,rfl,?_⟩⟩
 show if inV (.str (Tx [])) ([w0,w1,w2,w3,w4].map fun q=>V.str (Tx q))=true then _ else _
 rw[aCZ nn]
 refine aaX ⟨_,rfl,ps,rfl,⟨_,SqL.of aaA⟩,auV (xs:=[w0,w1,w2,w3,w4].map fun q=>V.str (Tx q)) (fun D i l H=>i=0/\l=[]∨(∃l',H D=some (.lst l'))/\RR (⟨aB,aD,aF,aH,aE,aA,aG,aI⟩:Cs) m0 m1 m3 (gO false kd) (gO true kw) D i l H) ?u1 ?u2 (zL 5) (fun D _=>.inl ⟨rfl,rfl⟩) (SqL.of aaA) ?st ?dn⟩
 case u1=>
  rintro D i l HX l' (h | ⟨hl,h⟩)
  ·exact .inl h
  ·exact .inr ⟨⟨_,aaA⟩,h.upd hl⟩
 case u2=>
  rintro D i l HX HY s (h | ⟨⟨l',hl⟩,h⟩)
  ·exact .inl h
  ·exact .inr ⟨⟨l',s _ _ hl⟩,h.keep s⟩
 case st=>
  intro i x l D H2 E' F' hx hR hD s2 hz hE hF
  have hR':RR (⟨aB,aD,aF,aH,aE,aA,aG,aI⟩:Cs) m0 m1 m3 (gO false kd) (gO true kw) D i l H2:=by
   rcases hR with ⟨rfl,rfl⟩ | h
   ·rfl
   ·exact h.2
  have up:∀{H5:Hp},Same H2 H5->∃l',H5 D=some (.lst l'):=fun s=>⟨_,s _ _ hz⟩
  have fr:∀{p:Addr},H2 p=none->p≠D:=fun h e=>by rw[e,hz] at h;cases h
  match i,hx,hR' with
  |0,hx,e=>cases hx;exact⟨_,rfl,_,rfl,w0,0,rfl,.inr (.inr ⟨0,59,m0,.inl ⟨rfl,rfl,rfl⟩,f0,fun H' s'=>hE _ _ s' (.inr ⟨up s',by rw[e];rfl⟩)⟩)⟩
  |1,hx,e=>cases hx;exact⟨_,rfl,_,rfl,w1,1,rfl,.inr (.inr ⟨0,23,m1,.inr (.inl ⟨rfl,rfl,rfl⟩),f1,fun H' s'=>hE _ _ s' (.inr ⟨up s',by rw[e];rfl⟩)⟩)⟩
  |2,hx,e=>cases hx;exact⟨_,rfl,_,rfl,w2,2,rfl,.inl ⟨rfl,kd,d2,fun v H' s' hv hn=>hE _ _ s' (.inr ⟨up s',v,by rw[e];rfl,hv,fun p ep=>fr (hn p ep)⟩)⟩⟩
  |3,hx,⟨dv,e,hd⟩=>cases hx;exact⟨_,rfl,_,rfl,w3,3,rfl,.inr (.inr ⟨1,12,m3,.inr (.inr ⟨rfl,rfl,rfl⟩),f3,fun H' s'=>hE _ _ s' (.inr ⟨up s',dv,by rw[e];rfl,hd.keep s'⟩)⟩)⟩
  |4,hx,⟨dv,e,hd⟩=>cases hx;exact⟨_,rfl,_,rfl,w4,4,rfl,.inr (.inl ⟨rfl,kw,d4,fun v H' s' hv hn=>hE _ _ s' (.inr ⟨up s',dv,v,by rw[e];rfl,hd.keep s',hv,fun p ep=>fr (hn p ep)⟩)⟩)⟩
  |i+5,hx,_=>cases hx
 case dn=>
  intro D H2 l hR hD s2 hz
  rcases hR with ⟨e,_⟩ | ⟨_,hR⟩
  ·cases e
  obtain⟨dv,wv,rfl,hd,hw⟩:=hR
  intro x dx nx ndx nex
  have n1:=alS (a:=.own x) (b:=.ins aJ dx []) nx ndx
  refine⟨x,dx,D,m0,m1,m3,dv,wv,rfl,aaA,n1 _ _ hz,⟨f0.nn,hb.1⟩,⟨f1.nn,hb.2⟩,fun tm H' htm hx' hs'=>⟨rfl,?_⟩⟩
  have sX:Same H2 H':=fun b o hb'=>hs' b o (n1 _ _ hb') (fun e=>by rw[e,nx] at hb';cases hb')
  exact q x dx dv wv tm H' htm (s0.trans (s2.trans sX)) hx' (hd.1.keep sX) (hw.1.keep sX)
theorem abZ:Df P w K mg base "_law_cell_at" 1 ["_law_script","_law_k"] (ajZ K):=by
 refine ZZ.ce.dfs akJ (fun vs H Q E h=>?_) (fun f cdv A outer s H vs Q E hr h=>?_)
 ·obtain⟨_,_,rfl,_⟩:=h
  rfl
 obtain⟨a,k,rfl,⟨ns,hS⟩,⟨h0,h9⟩,q⟩:=h
 refine⟨_,(ssC (sIf (tCm oLt (v_ 1) (eCB as6 ZZ.ak PySem.boot_len (aC (v_ 0) aN))) (ss1 (aaE (eIx xL (v_ 0) (v_ 1)))) ssN)
   (ss1 (aaE (eOp aa7 (eOp adR (eOp axT (eOp aaM (v_ 1) eI) eI) eI) eI)))),?_⟩
 refine⟨_,rfl,_,rfl,a,_,rfl,.inl hS,_,_,rfl,rfl,_,rfl,?_⟩
 refine ifD (fun c=>?_) (fun c=>?_)
 ·rw[aM] at c
  have hk:k.toNat<ns.length:=by omega
  have ek:k=((k.toNat:Nat):Int):=by omega
  have e:atI (ns.map V.int) k=some (.int ns[k.toNat]):=by
   have z:atI (ns.map V.int) ((k.toNat:Nat):Int)=some (.int ns[k.toNat]):=afR (by rw[aY,bU hk];rfl)
   rw[←ek] at z
   exact z
  refine⟨_,rfl,_,rfl,a,_,_,_,rfl,rfl,hS,e,?_⟩
  exact q _
 ·refine⟨_,rfl,_,_,rfl,rfl,_,_,rfl,rfl,⟨by decide,by decide,(by show (k+2).natAbs<2^64;omega)⟩,_,_,rfl,rfl,.inr ⟨by decide,by decide⟩,_,_,rfl,rfl,(by show (0:Int)<15485863;decide),?_⟩
  exact q _
theorem ao2:Df P w K mg base "_law_stir" 1 ["_law_number"] (arJ K):=by
 refine ZZ.dq.dfs sc__law_stir (fun vs H Q E h=>?_) (fun f cdv A outer s H vs Q E hr h=>?_)
 ·obtain⟨_,rfl,_⟩:=h
  rfl
 obtain⟨n,rfl,q⟩:=h
 refine⟨_,(ssC (aaJ 1 (eOp aa7 (eOp adR (eOp aaM (eOp aa7 (v_ 0) (eOp axT eI eI)) eI) eI) eI) sc__law_stir.nd)
   (ssC (aaJ 2 (eOp aa7 (eOp adR (v_ 1) (eOp aaM (eOp aa7 (v_ 1) eI) eI)) eI) sc__law_stir.nd)
   (ss1 (aaE (eOp aa7 (eOp adR (v_ 2) (eOp aaM (eOp aa7 (v_ 2) eI) eI)) eI))))),?_⟩
 refine⟨_,rfl,_,_,rfl,rfl,⟨by decide,by decide,by decide⟩,_,_,rfl,rfl,(by rw[aIF];show (0:Int)<_;decide),_,_,rfl,rfl,_,_,rfl,rfl,.inr ⟨by decide,by decide⟩,_,_,rfl,rfl,(by show (0:Int)<4294967291;decide),?_⟩
 refine⟨_,rfl,_,rfl,_,_,rfl,rfl,(by show (0:Int)<65521;decide),_,_,rfl,rfl,_,_,rfl,rfl,aGO (by decide) (by decide),_,_,rfl,rfl,(by show (0:Int)<999999937;decide),?_⟩
 refine⟨_,rfl,_,rfl,_,_,rfl,rfl,(by show (0:Int)<32749;decide),_,_,rfl,rfl,_,_,rfl,rfl,aGO (by decide) (by decide),_,_,rfl,rfl,(by show (0:Int)<2147483629;decide),?_⟩
 exact q _ (b8 _ (by decide)) (b9 _ (by decide))
theorem ab2:Df P w K mg base "_law_digits" 2 ["_law_cell","_law_sizes","_law_mixed"] (alQ K):=by
 refine ZZ.ct.dfs sc__law_digits (fun vs H Q E h=>?_) (fun f cdv A outer s H vs Q E hr h=>?_)
 ·obtain⟨_,_,_,_,rfl,_⟩:=h
  rfl
 obtain⟨c,a,b,ss,rfl,hS,hz,hl,q⟩:=h
 refine⟨_,(ssC (aaJ 3 (abR aN) sc__law_digits.nd)
   (ssC (aaJ 2 (eOr (v_ 2) (anD (ad2 oLt (eCB aC2 ZZ.bh PyProof.Rows.boot_abs (aC (v_ 0) aN)) (eOp axT eI eI)))) sc__law_digits.nd)
   (ssC (aeK (iL (v_ 1)) (gN 4 sc__law_digits.nd) (ss1 (sIf (tVa (v_ 2)) (ssC (aaJ 0 (eD (ao2 ZZ) hr (aC (v_ 0) aN)) sc__law_digits.nd)
   (ss1 (akD (akW (v_ 3) (eOp aa7 (eOp aeQ (v_ 0) eI) (v_ 4)))))) (ssC (akD (akW (v_ 3) (eOp aa7 (v_ 0) (v_ 4))))
   (ss1 (aaJ 0 (eOp aeQ (v_ 0) (v_ 4)) sc__law_digits.nd))))) PassesOwn.never)
   (ss1 (aaE (v_ 3)))))),?_⟩
 refine⟨(zL 0),fun fl hfl=>?_⟩
 refine⟨_,rfl,_,rfl,aFL (fun _=>?_) (fun _=>⟨_,rfl,_,rfl,_,_,rfl,rfl,⟨by decide,by decide,by decide⟩,_,_,rfl,rfl,?_⟩)⟩
 all_goals
  refine⟨_,rfl,a,rfl,⟨_,(aaB hfl _).seq hS⟩,abT (K:=K) (a:=a) (xs:=ss.map V.int) (fun i σ H2=>∃(c':Int) (b':Bool) (u:Option V) (ds:List Int),σ=[some (.int c'),some (.ref a),some (.bl b'),some (.ref fl),u]/\Same H H2/\H2 fl=some (.lst (ds.map V.int))/\Digs ds (ss.take i)) ⟨_,_,_,[],rfl,aaB hfl _,aaA,.nil⟩ (fun i σ H2 _ ⟨_,_,_,_,_,s2,_⟩=>s2.seq hS) ?_ ?_⟩
  ·rintro i x σ H2 hx ⟨c',b',u,ds,rfl,s2,hf,hd⟩
   rw[aY] at hx
   cases e:ss[i]? with
   |none=>rw[e] at hx;cases hx
   |some z=>
    rw[e] at hx
    obtain rfl:V.int z=x:=a8 hx
    have hzz:=hz z (bH e)
    have et:ss.take (i+1)=ss.take i++[z]:=by rw[bI,e];rfl
    have hdl:(ds.map V.int).length<sizeLine:=by
     have q1:=hd.len
     rw[cS] at q1
     rw[aM,dQ]
     omega
    have app:∀d:Int,(ds.map V.int)++[V.int d]=(ds++[d]).map V.int:=fun d=>by rw[aT];rfl
    refine⟨_,rfl,_,rfl,?_⟩
    cases b' with
    |true=>
     refine abH ⟨_,rfl,_,rfl,fun r hr0 hr1=>?_⟩
     refine⟨_,rfl,.inl ⟨rfl,_,SqL.of hf⟩,_,rfl,_,_,rfl,rfl,⟨by decide,by decide⟩,_,rfl,_,_,rfl,rfl,hzz.1,fl,_,_,rfl,rfl,hf,hdl,?_⟩
     refine⟨_,_,_,ds++[r / 8%z],rfl,aa4 hfl s2,by rw[app];exact aaA,?_⟩
     rw[et]
     exact hd.snoc (b8 _ (Int.ne_of_gt hzz.1)) (b9 _ hzz.1)
    |false=>
     refine aaX ⟨_,rfl,.inl ⟨rfl,_,SqL.of hf⟩,_,rfl,_,rfl,_,_,rfl,rfl,hzz.1,fl,_,_,rfl,rfl,hf,hdl,?_⟩
     refine⟨_,rfl,_,rfl,_,_,rfl,rfl,hzz,?_⟩
     refine⟨_,_,_,ds++[c'%z],rfl,aa4 hfl s2,by rw[app];exact aaA,?_⟩
     rw[et]
     exact hd.snoc (b8 _ (Int.ne_of_gt hzz.1)) (b9 _ hzz.1)
  ·rintro σ H2 ⟨c',b',u,ds,rfl,s2,hf,hd⟩
   rw[aM,bQ] at hd
   exact⟨_,rfl,q ds fl H2 s2 hf hd⟩
theorem adW:Df P w K mg base "_law_item" 1 ["_law_way","_law_first","_law_last_here","_law_step","_law_bounds"] (ap6 K):=by
 refine ZZ.dr.dfs sc__law_item (fun vs H Q E h=>?_) (fun f cdv A outer s H vs Q E hr h=>?_)
 ·obtain⟨_,_,_,_,_,_,_,rfl,_⟩:=h
  rfl
 obtain⟨p,way,fi,la,st,lo,hi,rfl,hp,hb,q⟩:=h
 refine⟨_,(ssC (ag0 (v_ 4) (gTu (gsC (gN 5 sc__law_item.nd) (gsC (gN 6 sc__law_item.nd) gsN))))
   (ssC (aaJ 1 (eOp aaM (v_ 5) (eOp aa7 (v_ 1) (eOp aaM (eOp abP (v_ 6) (v_ 5)) eI))) sc__law_item.nd)
   (ssC (aaJ 2 (eOp aaM (v_ 1) (eOp aa7 (v_ 2) (eOp aaM (eOp abP (v_ 6) (v_ 1)) eI))) sc__law_item.nd)
   (ssC (sIf (tCm oEq (v_ 0) eI) (ss1 (aaE (aa5 (aC (eCT aa8 ZZ.aa PyProof.Rows.boot_str (aC (v_ 1) aN)) (aC (abR (aC (v_ 1) aN)) aN))))) ssN)
   (ssC (sIf (tCm oEq (v_ 0) eI) (ss1 (aaE (aa5 (aC (eOp abD (eOp abD (eCT aa8 ZZ.aa PyProof.Rows.boot_str (aC (v_ 1) aN)) (eSx [45])) (eCT aa8 ZZ.aa PyProof.Rows.boot_str (aC (v_ 2) aN))) (aC (eCT cLR ZZ.as PyProof.Rows.boot_list (aC (eCT aD4 ZZ.ab dW (aC (v_ 1) (aC (eOp aaM (v_ 2) eI) aN))) aN)) aN))))) ssN)
   (ssC (aaJ 3 (eOp aaM eI (eOp aa7 (v_ 3) (eIx xL (abR (aC eI (aC eI aN))) (eOp aa7 (v_ 0) eI)))) sc__law_item.nd)
   (ssC (sIf (tCm oLt (v_ 0) eI) (ss1 (aaE (aa5 (aC (eOp abD (eOp abD (eCT aa8 ZZ.aa PyProof.Rows.boot_str (aC (v_ 1) aN)) (eSx [47])) (eCT aa8 ZZ.aa PyProof.Rows.boot_str (aC (v_ 3) aN))) (aC (eCT cLR ZZ.as PyProof.Rows.boot_list (aC (eCT aA0 ZZ.ab dW (aC (v_ 1) (aC (eOp aaM (v_ 6) eI) (aC (v_ 3) aN)))) aN)) aN))))) ssN)
   (ssC (sIf (tCm oLt (v_ 0) eI) (ss1 (aaE (aa5 (aC (eOp abD (eOp abD (eOp abD (eOp abD (eCT aa8 ZZ.aa PyProof.Rows.boot_str (aC (v_ 1) aN)) (eSx [45])) (eCT aa8 ZZ.aa PyProof.Rows.boot_str (aC (v_ 2) aN))) (eSx [47])) (eCT aa8 ZZ.aa PyProof.Rows.boot_str (aC (v_ 3) aN))) (aC (eCT cLR ZZ.as PyProof.Rows.boot_list (aC (eCT aA0 ZZ.ab dW (aC (v_ 1) (aC (eOp aaM (v_ 2) eI) (aC (v_ 3) aN)))) aN)) aN))))) ssN)
   (ss1 (aaE (aa5 (aC (eOp abD (eSx [42,47]) (eCT aa8 ZZ.aa PyProof.Rows.boot_str (aC (v_ 3) aN))) (aC (eCT cLR ZZ.as PyProof.Rows.boot_list (aC (eCT aA0 ZZ.ab dW (aC (v_ 5) (aC (eOp aaM (v_ 6) eI) (aC (v_ 3) aN)))) aN)) aN))))))))))))),?_⟩
 have p1:0<hi-lo+1:=by omega
 have m0:=b8 fi (show (hi-lo+1)≠0 by omega)
 have m1:=b9 fi p1
 refine⟨_,rfl,p,_,rfl,hp,rfl,_,_,rfl,_,_,rfl,rfl,?_⟩
 refine⟨_,rfl,_,rfl,_,rfl,_,rfl,_,_,rfl,rfl,_,_,rfl,rfl,_,_,rfl,rfl,p1,_,_,rfl,rfl,?_⟩
 obtain⟨A,eA⟩:∃A,A=lo+fi%(hi-lo+1):=⟨_,rfl⟩
 have a1:lo<=A/\A<=hi:=by omega
 show acO 1 (V.int (lo+fi%(hi-lo+1))) _ _ _
 rw[←eA]
 have p2:0<hi-A+1:=by omega
 have n0:=b8 la (show (hi-A+1)≠0 by omega)
 have n1:=b9 la p2
 refine⟨_,rfl,_,rfl,_,rfl,_,rfl,_,_,rfl,rfl,_,_,rfl,rfl,_,_,rfl,rfl,p2,_,_,rfl,rfl,?_⟩
 obtain⟨B,eB⟩:∃B,B=A+la%(hi-A+1):=⟨_,rfl⟩
 have b1:A<=B/\B<=hi:=by omega
 show acO 2 (V.int (A+la%(hi-A+1))) _ _ _
 rw[←eB]
 have sm:∀z:Int,0<=z->z<=99->z.toNat<10^500/\[V.int z]=[V.int (z.toNat:Nat)]:=fun z h1 h2=>⟨aX (show z.toNat<100 by omega) (by decide +kernel),by rw[bA h1]⟩
 have nl:∀z:Int,0<=z->z<=99->(num z.toNat).length<=2:=fun z h1 h2=>(abK _ (by omega)).2.2.2
 have z4':∀{n m:Nat},n<=20->m<=20->n+m<=sizeLine:=fun {n m} h1 h2=>by rw[dQ];omega
 have hA0:0<=A:=bZ hb.1 a1.1
 have hA31:A<=63:=bZ a1.2 hb.2.2
 have hB0:0<=B:=bZ hA0 b1.1
 have hB31:B<=63:=bZ b1.2 hb.2.2
 have hl31:lo<=63:=bZ hb.2.1 hb.2.2
 have hh0:0<=hi:=bZ hb.1 hb.2.1
 have up:∀{z:Int},z<=63->z<=1000/\z<=99:=fun h=>⟨bZ h (by decide),bZ h (by decide)⟩
 have dn:∀{z:Int},0<=z-> -1<=z:=fun h=>bZ (by decide) h
 have tn:∀{n:Nat},n<=1001->n<=100000:=fun h=>bJ h (by decide)
 have t2:∀{n:Nat},n<=2->n<=20/\n+1<=20:=fun h=>⟨bJ h (by decide),bJ (dI h 1) (by decide)⟩
 have t5:∀{n m:Nat},n<=2->m<=2->n+1+m<=20/\n+1+m+1<=20:=fun h h'=>⟨bJ (Nat.add_le_add (dI h 1) h') (by decide),bJ (dI (Nat.add_le_add (dI h 1) h') 1) (by decide)⟩
 clear m0 m1 n0 n1 p1 p2 eA eB
 have qA:=sm A hA0 (up hA31).2
 have qB:=sm B hB0 (up hB31).2
 have lA:=nl A hA0 (up hA31).2
 have lB:=nl B hB0 (up hB31).2
 refine⟨_,rfl,rfl,_,rfl,ifI (fun c=>?g0) (fun c0=>⟨_,rfl,rfl,_,rfl,ifI (fun c=>?g1) (fun c1=>?_)⟩)⟩
 case g0=>
  refine⟨_,rfl,A.toNat,qA.2,qA.1,_,rfl,(zL 1),fun u hu=>⟨(zL 2),fun t ht=>?_⟩⟩
  exact q t u _ [A] _ ((aaB hu _).trans (aaB ht _)) aaA ((aaB ht _) _ _ aaA) (i1 hb.1 a1.1 a1.2 hb.2.2) (arG (n42 (by omega)))
 case g1=>
  have n2:=acR (a:=A) (b:=B) (s:=1) hA0 (up hB31).1 (by decide)
  refine⟨_,rfl,A.toNat,qA.2,qA.1,_,_,rfl,rfl,z4' (t2 lA).1 (by decide),_,rfl,B.toNat,qB.2,qB.1,_,_,rfl,rfl,z4' (by rw[aP];exact (t2 lA).2) (t2 lB).1,_,rfl,_,rfl,_,_,rfl,rfl,_,_,rfl,fun r hr=>⟨r,A,B+1,1,(Builtin.Range.rangeSize A (B+1) 1).toNat,rfl,aaA,acH hA0 (up hA31).1 (dn hB0) (up hB31).1 (by decide) (by decide),n2.2,tn n2.1,fun u hu=>⟨(zL 2),fun t ht=>?_⟩⟩⟩
  exact q t u _ (ab4 A B 1) _ ((aaB hr _).trans ((aaB hu _).trans (aaB ht _))) aaA ((aaB ht _) _ _ (by rw[abY,bM];exact aaA)) (by rw[c8];exact i2 hb.1 a1.1 b1.1 b1.2 hb.2.2) (arG (c42 (c42 (n42 (by omega)) (by decide)) (n42 (by omega))))
 have w0:=b8 way (show (2:Int)≠0 by decide)
 have w1:=b9 way (show (0:Int)<2 by decide)
 obtain⟨v,hv,hor⟩:=at2 (i:=way%2) (x:=V.int 99) (y:=V.int 5) w0 w1
 obtain⟨k,ek,k0,k1⟩:∃k:Int,v=V.int k/\0<k/\k<=99:=by
  rcases hor with rfl | rfl
  ·exact⟨99,rfl,by decide,by decide⟩
  ·exact⟨5,rfl,by decide,by decide⟩
 subst ek
 refine⟨_,rfl,(zL 2),fun l1 hl1=>⟨_,rfl,_,_,rfl,rfl,(by show (0:Int)<2;decide),l1,_,_,_,rfl,rfl,SqL.of aaA,hv,_,_,rfl,rfl,k0,_,_,rfl,rfl,?_⟩⟩
 have s0:=b8 st (show k≠0 by omega)
 have s1:=b9 st k0
 obtain⟨S,eS⟩:∃S,S=1+st%k:=⟨_,rfl⟩
 have ss:1<=S/\S<=99:=by omega
 have hS0:0<S:=Int.lt_of_lt_of_le (by decide) ss.1
 have hSm:S<=1000:=bZ ss.2 (by decide)
 have hSx:S<1073741824:=Int.lt_of_le_of_lt ss.2 (by decide)
 show acO 3 (V.int (1+st%k)) _ _ _
 rw[←eS]
 have sl:=aaB hl1 (.lst [V.int 99,V.int 5])
 clear s0 s1 eS
 have qS:=sm S (Int.le_of_lt hS0) ss.2
 have lS:=nl S (Int.le_of_lt hS0) ss.2
 refine⟨_,rfl,_,_,rfl,rfl,_,rfl,ifD (fun c=>?g2) (fun c2=>⟨_,rfl,_,_,rfl,rfl,_,rfl,ifD (fun c=>?g3) (fun c3=>?g4)⟩)⟩
 case g2=>
  have n2:=acR (a:=A) (b:=hi) (s:=S) hA0 (up hb.2.2).1 hS0
  refine⟨_,rfl,A.toNat,qA.2,qA.1,_,_,rfl,rfl,z4' (t2 lA).1 (by decide),_,rfl,S.toNat,qS.2,qS.1,_,_,rfl,rfl,z4' (by rw[aP];exact (t2 lA).2) (t2 lS).1,_,rfl,_,rfl,_,_,rfl,rfl,_,rfl,_,_,_,rfl,⟨hS0,hSx⟩,fun r hr=>⟨r,A,hi+1,S,(Builtin.Range.rangeSize A (hi+1) S).toNat,rfl,aaA,acH hA0 (up hA31).1 (dn hh0) (up hb.2.2).1 hS0 hSm,n2.2,tn n2.1,fun u hu=>⟨(zL 2),fun t ht=>?_⟩⟩⟩
  exact q t u _ (ab4 A hi S) _ (sl.trans ((aaB hr _).trans ((aaB hu _).trans (aaB ht _)))) aaA ((aaB ht _) _ _ (by rw[abY,bM];exact aaA)) (by rw[c8];exact i4 hb.1 a1.1 a1.2 hb.2.2 ss) (arG (c42 (c42 (n42 (by omega)) (by decide)) (n42 (by omega))))
 case g3=>
  have n2:=acR (a:=A) (b:=B) (s:=S) hA0 (up hB31).1 hS0
  refine⟨_,rfl,A.toNat,qA.2,qA.1,_,_,rfl,rfl,z4' (t2 lA).1 (by decide),_,rfl,B.toNat,qB.2,qB.1,_,_,rfl,rfl,z4' (by rw[aP];exact (t2 lA).2) (t2 lB).1,_,_,rfl,rfl,z4' (by rw[aP,aP];exact (t5 lA lB).1) (by decide),_,rfl,S.toNat,qS.2,qS.1,_,_,rfl,rfl,z4' (by rw[aP,aP,aP];exact (t5 lA lB).2) (t2 lS).1,_,rfl,_,rfl,_,_,rfl,rfl,_,rfl,_,_,_,rfl,⟨hS0,hSx⟩,fun r hr=>⟨r,A,B+1,S,(Builtin.Range.rangeSize A (B+1) S).toNat,rfl,aaA,acH hA0 (up hA31).1 (dn hB0) (up hB31).1 hS0 hSm,n2.2,tn n2.1,fun u hu=>⟨(zL 2),fun t ht=>?_⟩⟩⟩
  have e5:((num A.toNat++[45])++num B.toNat++[47])++num S.toNat=(num A.toNat++45::num B.toNat)++47::num S.toNat:=by simp
  exact q t u _ (ab4 A B S) _ (sl.trans ((aaB hr _).trans ((aaB hu _).trans (aaB ht _)))) aaA ((aaB ht _) _ _ (by rw[abY,bM];exact aaA)) (by rw[e5];exact i5 hb.1 a1.1 b1.1 b1.2 hb.2.2 ss) (arG (c42 (c42 (c42 (c42 (n42 (by omega)) (by decide)) (n42 (by omega))) (by decide)) (n42 (by omega))))
 case g4=>
  have n2:=acR (a:=lo) (b:=hi) (s:=S) hb.1 (up hb.2.2).1 hS0
  refine⟨_,rfl,S.toNat,qS.2,qS.1,_,_,rfl,rfl,z4' (by decide) (t2 lS).1,_,rfl,_,rfl,_,_,rfl,rfl,_,rfl,_,_,_,rfl,⟨hS0,hSx⟩,fun r hr=>⟨r,lo,hi+1,S,(Builtin.Range.rangeSize lo (hi+1) S).toNat,rfl,aaA,acH hb.1 (up hl31).1 (dn hh0) (up hb.2.2).1 hS0 hSm,n2.2,tn n2.1,fun u hu=>⟨(zL 2),fun t ht=>?_⟩⟩⟩
  exact q t u _ (ab4 lo hi S) _ (sl.trans ((aaB hr _).trans ((aaB hu _).trans (aaB ht _)))) aaA ((aaB ht _) _ _ (by rw[abY,bM];exact aaA)) (i3 hb.1 hb.2.1 hb.2.2 ss) (fun e=>by have:=congrArg List.length e;simp at this)
theorem aaV:Df P w K mg base "_law_mask" 1 ["_law_numbers_here"] (apL K):=by
 refine ZZ.ds.dfs aqI (fun vs H Q E h=>?_) (fun f cdv A outer s H vs Q E hr h=>?_)
 ·obtain⟨_,_,rfl,_⟩:=h
  rfl
 obtain⟨a,ns,rfl,hS,hlen,hin,q⟩:=h
 refine⟨_,(ss1 (aaE (eCB aH8 ZZ.ed PyProof.Rows.boot_sum (aC (acD [] [] (iL (eCB cSrt ZZ.e2 PyProof.Rows.boot_sorted (aC (eCT cSet ZZ.e7 PyProof.Rows.boot_set (aC (v_ 0) aN)) aN))) (fun _ _ _ _ _ _=>fsN) (fun _ _ _ _ _ _=>(eOp af4 eI (v_ 0)))) aN)))),?_⟩
 refine⟨_,rfl,a,ns,rfl,hS,(by omega),fun st hst=>⟨st,ns,rfl,aaA,(fun x hx=>by have:=hin x hx;omega),fun so zs hso hpw hmem=>?_⟩⟩
 have hz:∀d∈zs,0<=d/\d<=62:=fun d hd=>hin d ((hmem d).mp hd)
 have hzl:=az4 (n:=63) 0 hpw (fun d hd=>by have:=hz d hd;omega) (by decide)
 have s1:=(aaB hst (stO P w st ns)).trans (aaB hso (.lst (zs.map V.int)))
 refine⟨so,rfl,⟨_,SqL.of aaA⟩,ab8 (xs:=zs.map V.int) (fun i z=>z=((zs.take i).map fun d=>V.int (1*2^d.toNat))) (by rw[aM,dQ];omega) rfl (SqL.of aaA) ?_ ?_⟩
 ·intro i v z D H2 E' F' hv hR hD s2 hz2 hE hF
  subst hR
  rw[aY] at hv
  cases ez:zs[i]? with
  |none=>rw[ez] at hv;cases hv
  |some d=>
   rw[ez] at hv
   obtain rfl:V.int d=v:=a8 hv
   have hd:=hz d (bH ez)
   exact⟨_,rfl,_,_,rfl,rfl,⟨hd.1,by omega,by decide⟩,hE _ _ (Same.refl _) (by rw[bI,ez,aT];rfl)⟩
 ·intro D H2 z hR hD s2 hz2
  subst hR
  rw[aM,bQ] at hz2
  refine⟨D,zs.map fun d=>1*2^d.toNat,rfl,SqL.of (by rw[hz2,bM];rfl),?_⟩
  exact q zs H2 hpw hmem (s1.trans s2)
theorem apN:Df P w K mg base "_law_spec" 2 ["_law_parts","_law_week"] (aqM K):=by
 refine ZZ.dt.dfs sc__law_spec (fun vs H Q E h=>?_) (fun f cdv A outer s H vs Q E hr h=>?_)
 ·obtain⟨_,_,_,_,_,_,rfl,_⟩:=h
  rfl
 obtain⟨p,b,way,fi,la,st,rfl,hp,hw,q⟩:=h
 refine⟨_,(ssC (ag0 (v_ 0) (aFG (gsC (gN 2 sc__law_spec.nd) (gsC (gN 3 sc__law_spec.nd) (gsC (gN 4 sc__law_spec.nd) (gsC (gN 5 sc__law_spec.nd) gsN))))))
   (ssC (sIf (tVa (v_ 1)) (ssC (aaJ 6 (eOp aa7 (v_ 3) eI) sc__law_spec.nd)
   (ssC (sIf (tCm oLt (v_ 2) eI) (ss1 (aaE (aa5 (aC (eOp abD (eOp abD (eCT aa8 ZZ.aa PyProof.Rows.boot_str (aC (v_ 6) aN)) (eSx [35])) (eCT aa8 ZZ.aa PyProof.Rows.boot_str (aC (eOp aaM eI (eOp aa7 (v_ 4) eI)) aN))) (aC (aa5 (aC (eSx [110,116,104]) (aC (eOp aa7 (v_ 6) eI) (aC (eOp aaM eI (eOp aa7 (v_ 4) eI)) aN)))) aN))))) ssN)
   (ssC (sIf (tCm oLt (v_ 2) eI) (ss1 (aaE (aa5 (aC (eOp abD (eCT aa8 ZZ.aa PyProof.Rows.boot_str (aC (v_ 6) aN)) (eSx [76])) (aC (aa5 (aC (eSx [108,97,115,116,111,110,101]) (aC (eOp aa7 (v_ 6) eI) (aC eI aN)))) aN))))) ssN)
   (ssC (ag0 (eD (adW ZZ) hr (aC (eIx xL (abR (aC (eOp abP (v_ 2) eI) (aC eI aN))) (eCT avQ ZZ.ax PyProof.Rows.boot_int (aC (ad2 oGt (v_ 2) eI) aN))) (aC (v_ 3) (aC (v_ 4) (aC (v_ 5) (aC (aa5 (aC eI (aC eI aN))) aN)))))) (gTu (gsC (gN 7 sc__law_spec.nd) (gsC (gN 8 sc__law_spec.nd) gsN))))
   (ss1 (aaE (aa5 (aC (v_ 7) (aC (aa5 (aC (eSx [112,108,97,105,110]) (aC (eD (aaV ZZ) hr (aC (acD [] [] (iL (v_ 8)) (fun _ _ _ _ _ _=>fsN) (fun _ _ _ _ _ _=>(eOp aa7 (v_ 0) eI))) aN)) (aC eI aN)))) aN))))))))) ssN)
   (ssC (sIf (tCm oEq (v_ 2) eI) (ss1 (aaE (aa5 (aC (eSx [76]) (aC (aa5 (aC (eSx [108,97,115,116]) (aC eI (aC eI aN)))) aN))))) ssN)
   (ssC (sIf (tCm oLt (v_ 2) eI) (ss1 (aaE (aa5 (aC (eOp abD (eSx [76,45]) (eCT aa8 ZZ.aa PyProof.Rows.boot_str (aC (eOp aaM eI (eOp aa7 (v_ 3) eI)) aN))) (aC (aa5 (aC (eSx [108,97,115,116]) (aC (eOp aaM eI (eOp aa7 (v_ 3) eI)) (aC eI aN)))) aN))))) ssN)
   (ssC (sIf (tCm oLt (v_ 2) eI) (ss1 (aaE (aa5 (aC (eOp abD (eCT aa8 ZZ.aa PyProof.Rows.boot_str (aC (eOp aaM eI (eOp aa7 (v_ 3) eI)) aN)) (eSx [87])) (aC (aa5 (aC (eSx [110,101,97,114]) (aC (eOp aaM eI (eOp aa7 (v_ 3) eI)) (aC eI aN)))) aN))))) ssN)
   (ssC (sIf (tCm oEq (v_ 2) eI) (ss1 (aaE (aa5 (aC (eSx [76,87]) (aC (aa5 (aC (eSx [119,111,114,107]) (aC eI (aC eI aN)))) aN))))) ssN)
   (ssC (ag0 (eD (adW ZZ) hr (aC (eIx xL (abR (aC (eOp abP (v_ 2) eI) (aC eI aN))) (eCT avQ ZZ.ax PyProof.Rows.boot_int (aC (ad2 oGt (v_ 2) eI) aN))) (aC (v_ 3) (aC (v_ 4) (aC (v_ 5) (aC (aa5 (aC eI (aC eI aN))) aN)))))) (gTu (gsC (gN 7 sc__law_spec.nd) (gsC (gN 8 sc__law_spec.nd) gsN))))
   (ss1 (aaE (aa5 (aC (v_ 7) (aC (aa5 (aC (eSx [112,108,97,105,110]) (aC (eD (aaV ZZ) hr (aC (v_ 8) aN)) (aC eI aN)))) aN)))))))))))),?_⟩
 have sm:∀z:Int,0<=z->z<=99->z.toNat<10^500/\[V.int z]=[V.int (z.toNat:Nat)]:=fun z h1 h2=>⟨aX (show z.toNat<100 by omega) (by decide +kernel),by rw[bA h1]⟩
 have nl:∀z:Int,0<=z->z<=99->(num z.toNat).length<=2:=fun z h1 h2=>(abK _ (by omega)).2.2.2
 have z4':∀{n m:Nat},n<=20->m<=20->n+m<=sizeLine:=fun {n m} h1 h2=>by rw[dQ];omega
 refine⟨_,rfl,p,_,rfl,hp,rfl,_,_,rfl,_,_,rfl,_,_,rfl,_,_,rfl,rfl,?_⟩
 refine⟨_,rfl,_,rfl,?_⟩
 cases b with
 |true=>
  refine abH ⟨_,rfl,_,_,rfl,rfl,(by show (0:Int)<8;decide),?_⟩
  have d0:=b8 fi (show (8:Int)≠0 by decide)
  have d1:=b9 fi (show (0:Int)<8 by decide)
  obtain⟨dy,edy⟩:∃dy,dy=fi%8:=⟨_,rfl⟩
  show acO 6 (V.int (fi%8)) _ _ _
  rw[←edy]
  have f0:=b8 la (show (5:Int)≠0 by decide)
  have f1:=b9 la (show (0:Int)<5 by decide)
  have g0:=b8 dy (show (7:Int)≠0 by decide)
  have g1:=b9 dy (show (0:Int)<7 by decide)
  have qD:=sm dy (by omega) (by omega)
  have lD:=nl dy (by omega) (by omega)
  have qM:=sm (1+la%5) (by omega) (by omega)
  have lM:=nl (1+la%5) (by omega) (by omega)
  refine⟨_,rfl,_,_,rfl,rfl,_,rfl,ifD (fun c=>?w0) (fun c0=>⟨_,rfl,_,_,rfl,rfl,_,rfl,ifD (fun c=>?w1) (fun c1=>?w2)⟩)⟩
  case w0=>
   refine⟨_,rfl,dy.toNat,qD.2,qD.1,_,_,rfl,rfl,z4' (by omega) (by decide),_,rfl,_,_,rfl,rfl,(by show (0:Int)<5;decide),_,_,rfl,rfl,(1+la%5).toNat,qM.2,qM.1,_,_,rfl,rfl,z4' (by rw[aP];show _+1<=20;omega) (by omega),_,rfl,_,_,rfl,rfl,(by show (0:Int)<7;decide),_,rfl,_,_,rfl,rfl,(by show (0:Int)<5;decide),_,_,rfl,rfl,(zL 3),fun u hu=>⟨(zL 2),fun t ht=>?_⟩⟩
   have z:=aDK dy.toNat (by omega) (1+la%5).toNat (by omega) (by omega)
   rw[bA (by omega),bA (by omega)] at z
   exact q t u _ (.nth (dy%7) (1+la%5)) _ ((aaB hu _).trans (aaB ht _)) aaA ((aaB ht _) _ _ aaA) ⟨⟨by omega,by omega⟩,by omega,by omega⟩ rfl rfl z.1 z.2 (arG (c42 (c42 (n42 (by omega)) (by decide)) (n42 (by omega))))
  case w1=>
   refine⟨_,rfl,dy.toNat,qD.2,qD.1,_,_,rfl,rfl,z4' (by omega) (by decide),_,rfl,_,_,rfl,rfl,(by show (0:Int)<7;decide),(zL 3),fun u hu=>⟨(zL 2),fun t ht=>?_⟩⟩
   have z:=aDS dy.toNat (by omega)
   rw[bA (by omega)] at z
   exact q t u _ (.one (dy%7)) _ ((aaB hu _).trans (aaB ht _)) aaA ((aaB ht _) _ _ aaA) ⟨by omega,by omega⟩ rfl rfl z.1 z.2 (arG (c42 (n42 (by omega)) (by decide)))
  case w2=>
   refine⟨_,rfl,_,_,rfl,rfl,(zL 2),fun l1 hl1=>?_⟩
   obtain⟨x,hx⟩:∃x:Int,atI [V.int (way-6),V.int 1] (if decide (13<way) then 1 else 0)=some (V.int x):=by
    by_cases c:13<way
    ·rw[dU c];exact⟨1,rfl⟩
    ·rw[dY c];exact⟨_,rfl⟩
   have s1:=aaB hl1 (.lst [V.int (way-6),V.int 1])
   refine⟨_,rfl,_,_,rfl,rfl,.inr ⟨_,rfl,l1,_,_,_,rfl,rfl,SqL.of aaA,hx,_,rfl,_,rfl,_,rfl,(zL 2),fun tb htb=>?_⟩⟩
   have s2:=s1.trans (aaB htb (.tup [V.int 0,V.int 7]))
   refine⟨tb,x,fi,la,st,0,7,rfl,SqT.of aaA,⟨by decide,by decide,by decide⟩,fun t u tw ns H3 s3 ht hu it h42=>?_⟩
   have hin:=it.2.2.1
   have hlen:=it.2.2.2.2
   refine⟨t,_,rfl,SqT.of ht,rfl,_,_,rfl,_,_,rfl,rfl,?_⟩
   refine⟨_,rfl,_,rfl,u,rfl,⟨_,SqL.of hu⟩,ab8 (xs:=ns.map V.int) (fun i z=>z=((ns.take i).map fun d=>V.int (d%7))) (by rw[aM,dQ];omega) rfl (SqL.of hu) ?_ ?_⟩
   ·intro i v z D H4 E' F' hv hR hD s4 hz hE hF
    subst hR
    rw[aY] at hv
    cases ez:ns[i]? with
    |none=>rw[ez] at hv;cases hv
    |some d=>
     rw[ez] at hv
     obtain rfl:V.int d=v:=a8 hv
     exact⟨_,rfl,_,_,rfl,rfl,(by show (0:Int)<7;decide),hE _ _ (Same.refl _) (by rw[bI,ez,aT];rfl)⟩
   ·intro D H4 z hR hD s4 hz
    subst hR
    rw[aM,bQ] at hz
    have hm7:∀n∈ns.map (fun d=>d%7),0<=n/\n<=6:=fun n hn=>by
     obtain⟨d,_,rfl⟩:=a9.mp hn
     show 0<=d%7/\d%7<=6
     omega
    refine⟨D,ns.map (fun d=>d%7),rfl,SqL.of (by rw[hz,bM];rfl),(by rw[aM];omega),(fun n hn=>by have:=hm7 n hn;omega),fun zs H5 hpw hmem s5=>⟨(zL 3),fun u' hu'=>⟨(zL 2),fun t' ht'=>?_⟩⟩⟩
    have hb:=aw4 (n:=7) 0 hpw (fun d hd=>by have:=hm7 d ((hmem d).mp hd);omega) (by decide)
    have e128:(2:Int)^7=128:=by decide
    have e1:(2:Int)^0=1:=by decide
    have hlt:=ahY (n:=8) (fun z hz=>by have:=hin z hz;omega)
    have e256:(2:Int)^8=256:=by decide
    exact q t' u' _ (.wkd (ab5 zs)) _ (s2.trans (s3.trans (s4.trans (s5.trans ((aaB hu' _).trans (aaB ht' _)))))) aaA ((aaB ht' _) _ _ aaA) ⟨ak3 _,by omega⟩ rfl rfl ⟨rfl,aa3 ns,it.1,⟨acV it.2.2.2.1 (fun n hn=>(hin n hn).1),by omega⟩,aB5 hpw hmem hin⟩ it.2.1 h42
 |false=>
  refine aaX ?_
  have f0:=b8 fi (show (30:Int)≠0 by decide)
  have f1:=b9 fi (show (0:Int)<30 by decide)
  have g0:=b8 fi (show (31:Int)≠0 by decide)
  have g1:=b9 fi (show (0:Int)<31 by decide)
  have qD:=sm (1+fi%30) (by omega) (by omega)
  have lD:=nl (1+fi%30) (by omega) (by omega)
  have qM:=sm (1+fi%31) (by omega) (by omega)
  have lM:=nl (1+fi%31) (by omega) (by omega)
  refine⟨_,rfl,rfl,_,rfl,ifI (fun c=>?m0) (fun c0=>⟨_,rfl,_,_,rfl,rfl,_,rfl,ifD (fun c=>?m1) (fun c1=>⟨_,rfl,_,_,rfl,rfl,_,rfl,ifD (fun c=>?m2) (fun c2=>⟨_,rfl,rfl,_,rfl,ifI (fun c=>?m3) (fun c3=>?m4)⟩)⟩)⟩)⟩
  case m0=>
   refine⟨(zL 3),fun u hu=>⟨(zL 2),fun t ht=>?_⟩⟩
   exact q t u _ (.lst 0) _ ((aaB hu _).trans (aaB ht _)) aaA ((aaB ht _) _ _ aaA) ⟨by decide,by decide⟩ rfl rfl ap2.1 ap2.2 (by decide)
  case m1=>
   refine⟨_,rfl,_,_,rfl,rfl,(by show (0:Int)<30;decide),_,_,rfl,rfl,(1+fi%30).toNat,qD.2,qD.1,_,_,rfl,rfl,z4' (by decide) (by omega),_,rfl,_,_,rfl,rfl,(by show (0:Int)<30;decide),_,_,rfl,rfl,(zL 3),fun u hu=>⟨(zL 2),fun t ht=>?_⟩⟩
   have z:=avC (1+fi%30).toNat (by omega) (by omega)
   rw[bA (by omega)] at z
   exact q t u _ (.lst (1+fi%30)) _ ((aaB hu _).trans (aaB ht _)) aaA ((aaB ht _) _ _ aaA) ⟨by omega,by omega⟩ rfl rfl z.1 z.2 (arG (c42 (by decide) (n42 (by omega))))
  case m2=>
   refine⟨_,rfl,_,_,rfl,rfl,(by show (0:Int)<31;decide),_,_,rfl,rfl,(1+fi%31).toNat,qM.2,qM.1,_,_,rfl,rfl,z4' (by omega) (by decide),_,rfl,_,_,rfl,rfl,(by show (0:Int)<31;decide),_,_,rfl,rfl,(zL 3),fun u hu=>⟨(zL 2),fun t ht=>?_⟩⟩
   have z:=au7 (1+fi%31).toNat (by omega) (by omega)
   rw[bA (by omega)] at z
   exact q t u _ (.nea (1+fi%31)) _ ((aaB hu _).trans (aaB ht _)) aaA ((aaB ht _) _ _ aaA) ⟨by omega,by omega⟩ rfl rfl z.1 z.2 (arG (c42 (n42 (by omega)) (by decide)))
  case m3=>
   refine⟨(zL 3),fun u hu=>⟨(zL 2),fun t ht=>?_⟩⟩
   exact q t u _ .wrk _ ((aaB hu _).trans (aaB ht _)) aaA ((aaB ht _) _ _ aaA) trivial rfl rfl arN.1 arN.2 (by decide)
  case m4=>
   refine⟨_,rfl,_,_,rfl,rfl,(zL 2),fun l1 hl1=>?_⟩
   obtain⟨x,hx⟩:∃x:Int,atI [V.int (way-6),V.int 1] (if decide (13<way) then 1 else 0)=some (V.int x):=by
    by_cases c:13<way
    ·rw[dU c];exact⟨1,rfl⟩
    ·rw[dY c];exact⟨_,rfl⟩
   have s1:=aaB hl1 (.lst [V.int (way-6),V.int 1])
   refine⟨_,rfl,_,_,rfl,rfl,.inr ⟨_,rfl,l1,_,_,_,rfl,rfl,SqL.of aaA,hx,_,rfl,_,rfl,_,rfl,(zL 2),fun tb htb=>?_⟩⟩
   have s2:=s1.trans (aaB htb (.tup [V.int 1,V.int 31]))
   refine⟨tb,x,fi,la,st,1,31,rfl,SqT.of aaA,⟨by decide,by decide,by decide⟩,fun t u tw ns H3 s3 ht hu it h42=>?_⟩
   have hin:=it.2.2.1
   have hlen:=it.2.2.2.2
   refine⟨t,_,rfl,SqT.of ht,rfl,_,_,rfl,_,_,rfl,rfl,?_⟩
   refine⟨_,rfl,_,rfl,u,ns,rfl,SqL.of hu,(by omega),(fun n hn=>by have:=hin n hn;omega),fun zs H5 hpw hmem s5=>⟨(zL 3),fun u' hu'=>⟨(zL 2),fun t' ht'=>?_⟩⟩⟩
   have em:=adF hpw hmem (fun n hn=>by have:=hin n hn;omega)
   exact q t' u' _ (.num (ab5 zs)) _ (s2.trans (s3.trans (s5.trans ((aaB hu' _).trans (aaB ht' _))))) aaA ((aaB ht' _) _ _ aaA) (ak3 _) rfl rfl ⟨rfl,by rw[em];exact it.1,by rw[em];exact acV it.2.2.2.1 (fun n hn=>by have:=hin n hn;omega)⟩ it.2.1 h42
theorem aeF:Df P w K mg base "_law_working" 1 ["_law_last_here","_law_first"] (ajU K):=by
 refine ZZ.cf.dfs aj3 (fun vs H Q E h=>?_) (fun f cdv A outer s H vs Q E hr h=>?_)
 ·obtain⟨_,_,rfl,_⟩:=h
  rfl
 obtain⟨l,fi,rfl,hl,q⟩:=h
 refine⟨_,(ss1 (aaE (acD ["_law_first"] [1] (iR2 ZZ.ab (aC eI (aC (eOp aaM (v_ 0) eI) aN))) (fun _ _ _ _ _ _=>(fs1 (tCh oLe oLe eI (eOp aa7 (eOp abP (eOp aaM (v_ 1) (v_ 0)) eI) eI) eI))) (fun _ _ _ _ _ _=>(v_ 0))))),?_⟩
 have en:(l+1-1).toNat=l.toNat:=by omega
 refine⟨_,rfl,_,_,rfl,rfl,_,_,rfl,⟨by decide,by decide,by omega,by omega⟩,aa6 (fun i z=>z=(ab6 fi i).map V.int) (by show (l+1-1).toNat<=sizeLine;rw[dQ];omega) rfl ?_ ?_⟩
 ·intro i z D H2 E' F' hi hR hD s2 hz hE hF
  subst hR
  refine⟨_,rfl,_,rfl,_,_,rfl,rfl,_,_,rfl,rfl,_,_,rfl,rfl,(by show (0:Int)<7;decide),_,_,rfl,rfl,_,rfl,?_⟩
  have no:wk fi i=false->ab6 fi (i+1)=ab6 fi i:=fun h=>by
   show ab6 fi i++(if wk fi i=true then [1+(i:Int)] else [])=_
   rw[h,if_neg aW,bS]
  have yes:wk fi i=true->ab6 fi (i+1)=ab6 fi i++[1+(i:Int)]:=fun h=>by
   show ab6 fi i++(if wk fi i=true then [1+(i:Int)] else [])=_
   rw[if_pos h]
  refine ifD (fun c1=>⟨_,_,rfl,rfl,_,rfl,?_⟩) (fun c1=>⟨_,rfl,?_⟩)
  ·refine ifD (fun c2=>⟨_,rfl,hE _ _ (Same.refl _) ?_⟩) (fun c2=>hF _ (Same.refl _) ?_)
   ·rw[yes (by unfold wk;rw[dU c1,dU c2];rfl),ae4]
   ·rw[no (by unfold wk;rw[dU c1,dY c2];rfl)]
  ·exact hF _ (Same.refl _) (by rw[no (by unfold wk;rw[dY c1];rfl)])
 ·intro D H2 z hR hD s2 hz
  subst hR
  rw[en] at hz
  exact q D H2 s2 hz
theorem arQ:Df P w K mg base "_law_near" 2 ["_law_day","_law_last_here","_law_first"] (aqE K):=by
 refine ZZ.du.dfs sc__law_near (fun vs H Q E h=>?_) (fun f cdv A outer s H vs Q E hr h=>?_)
 ·obtain⟨_,_,_,rfl,_⟩:=h
  rfl
 obtain⟨d,l,fi,rfl,ok,q⟩:=h
 refine⟨_,(ssC (sIf (tCm oGt (v_ 0) (v_ 1)) (ss1 (aaE eI)) ssN)
   (ssC (aaJ 3 eI sc__law_near.nd)
   (ssC (aeK (iL (eD (aeF ZZ) hr (aC (v_ 1) (aC (v_ 2) aN)))) (gN 4 sc__law_near.nd) (ss1 (sIf (tW (wOr (tCm oEq (v_ 3) eI) (alX (tCm oLt (eCB aC2 ZZ.bh PyProof.Rows.boot_abs (aC (eOp abP (v_ 4) (v_ 0)) aN)) (eCB aC2 ZZ.bh PyProof.Rows.boot_abs (aC (eOp abP (v_ 3) (v_ 0)) aN)))))) (ss1 (aaJ 3 (v_ 4) sc__law_near.nd)) ssN)) PassesOwn.never)
   (ss1 (aaE (eOp af4 eI (v_ 3))))))),?_⟩
 refine⟨_,rfl,_,rfl,_,_,rfl,rfl,_,rfl,ifD (fun c=>?_) (fun c=>?_)⟩
 ·have e:aiL d l fi=0:=by unfold aiL;rw[if_pos c]
  rw[e] at q
  exact q H (Same.refl H)
 have e:aiL d l fi=1*2^(nw d l fi).toNat:=by unfold aiL;rw[if_neg c]
 rw[e] at q
 have hn:=ak0 ok (by omega)
 refine⟨_,rfl,_,rfl,_,_,rfl,ok.2.1,fun p H1 s1 hp=>?_⟩
 refine⟨p,rfl,⟨_,SqL.of hp⟩,abT (K:=K) (a:=p) (xs:=(ab6 fi l.toNat).map V.int) (fun i σ H2=>H2=H1/\∃u:Option V,σ=[some (.int d),some (.int l),some (.int fi),some (.int (((ab6 fi l.toNat).take i).foldl (stp d) 0)),u]) ⟨rfl,_,rfl⟩ (fun i σ H2 _ hP=>by rw[hP.1];exact SqL.of hp) ?_ ?_⟩
 ·rintro i x σ H2 hx ⟨rfl,u,rfl⟩
  rw[aY] at hx
  cases ez:(ab6 fi l.toNat)[i]? with
  |none=>rw[ez] at hx;cases hx
  |some z=>
   rw[ez] at hx
   obtain rfl:V.int z=x:=a8 hx
   have et:((ab6 fi l.toNat).take (i+1)).foldl (stp d) 0=stp d (((ab6 fi l.toNat).take i).foldl (stp d) 0) z:=by
    rw[bI,ez,List.foldl_append]
    rfl
   rw[et]
   generalize ((ab6 fi l.toNat).take i).foldl (stp d) 0=acc
   refine⟨_,rfl,rfl,_,rfl,ifI (fun c1=>?_) (fun c1=>⟨_,rfl,_,rfl,_,_,rfl,rfl,_,rfl,_,rfl,_,rfl,_,_,rfl,rfl,_,rfl,_,_,rfl,rfl,_,rfl,ifD (fun c2=>?_) (fun c2=>?_)⟩)⟩
   ·exact⟨_,rfl,rfl,_,by unfold stp;rw[if_pos c1];rfl⟩
   ·exact⟨_,rfl,rfl,_,by unfold stp;rw[if_neg c1,if_pos (show ab (z-d)<ab (acc-d) from c2)];rfl⟩
   ·exact⟨rfl,_,by unfold stp;rw[if_neg c1,if_neg (show ¬ab (z-d)<ab (acc-d) from c2)];rfl⟩
 ·rintro σ H2 ⟨rfl,u,rfl⟩
  rw[aM,bQ,hn.1]
  exact⟨_,rfl,_,_,rfl,rfl,⟨by omega,by omega,by decide⟩,q _ s1⟩
theorem am2:Df P w K mg base "_law_on" 1 ["_law_which","_law_last_here","_law_first"] (au3 K):=by
 refine ZZ.e1.dfs auK (fun vs H Q E h=>?_) (fun f cdv A outer s H vs Q E hr h=>?_)
 ·obtain⟨_,_,_,rfl,_⟩:=h
  rfl
 obtain⟨wd,l,fi,rfl,hl,q⟩:=h
 refine⟨_,(ss1 (aaE (acD ["_law_which","_law_first"] [0,2] (iR2 ZZ.ab (aC eI (aC (eOp aaM (v_ 1) eI) aN))) (fun _ _ _ _ _ _=>(fs1 (tCm oEq (eOp aa7 (eOp abP (eOp aaM (v_ 2) (v_ 0)) eI) eI) (v_ 1)))) (fun _ _ _ _ _ _=>(v_ 0))))),?_⟩
 have en:(l+1-1).toNat=l.toNat:=by omega
 refine⟨_,rfl,_,_,rfl,rfl,_,_,rfl,⟨by decide,by decide,by omega,by omega⟩,aa6 (fun i z=>z=(onN fi wd i).map V.int) (by show (l+1-1).toNat<=sizeLine;rw[dQ];omega) rfl ?_ ?_⟩
 ·intro i z D H2 E' F' hi hR hD s2 hz hE hF
  subst hR
  refine⟨_,rfl,_,rfl,_,_,rfl,rfl,_,_,rfl,rfl,_,_,rfl,rfl,(by show (0:Int)<7;decide),_,rfl,rfl,_,rfl,?_⟩
  refine ifI (fun c=>⟨_,rfl,hE _ _ (Same.refl _) ?_⟩) (fun c=>hF _ (Same.refl _) ?_)
  ·have e:onN fi wd (i+1)=onN fi wd i++[1+(i:Int)]:=by
    show onN fi wd i++(if onD fi wd i=true then [1+(i:Int)] else [])=_
    rw[if_pos (by unfold onD;exact dU c)]
   rw[e,ae4]
  ·have e:onN fi wd (i+1)=onN fi wd i:=by
    show onN fi wd i++(if onD fi wd i=true then [1+(i:Int)] else [])=_
    rw[if_neg (by unfold onD;rw[dY c];exact aW),bS]
   rw[e]
 ·intro D H2 z hR hD s2 hz
  subst hR
  rw[en] at hz
  exact q D H2 s2 hz
theorem apP:Df P w K mg base "_law_days" 3 ["_law_spec_here","_law_last_here","_law_first","_law_week"] (aqO K):=by
 refine ZZ.dv.dfs sc__law_days (fun vs H Q E h=>?_) (fun f cdv A outer s H vs Q E hr h=>?_)
 ·obtain⟨_,_,_,_,rfl,_⟩:=h
  rfl
 obtain⟨u,k,l,fi,rfl,hu,hok,hsp,hlf,q⟩:=h
 refine⟨_,(ssC (ag0 (v_ 0) (gTu (gsC (gN 4 sc__law_days.nd) (gsC (gN 5 sc__law_days.nd) (gsC (gN 6 sc__law_days.nd) gsN)))))
   (ssC (sIf (tW (aqU (tCm oEq (v_ 4) (eSx [112,108,97,105,110])) (ajE (tVa (v_ 3))))) (ss1 (aaE (eD (aaV ZZ) hr (aC (acD ["_law_one","_law_first"] [5,2] (iR2 ZZ.ab (aC eI (aC (eOp aaM (v_ 1) eI) aN))) (fun _ _ _ _ _ _=>(fs1 (tCm oEq (eOp akF (eOp alD (v_ 1) (eOp aa7 (eOp abP (eOp aaM (v_ 2) (v_ 0)) eI) eI)) eI) eI))) (fun _ _ _ _ _ _=>(v_ 0))) aN)))) ssN)
   (ssC (sIf (tCm oEq (v_ 4) (eSx [112,108,97,105,110])) (ss1 (aaE (eD (aaV ZZ) hr (aC (acD ["_law_one"] [5] (iR2 ZZ.ab (aC eI (aC (eOp aaM (v_ 1) eI) aN))) (fun _ _ _ _ _ _=>(fs1 (tCm oEq (eOp akF (eOp alD (v_ 1) (v_ 0)) eI) eI))) (fun _ _ _ _ _ _=>(v_ 0))) aN)))) ssN)
   (ssC (sIf (tCm oEq (v_ 4) (eSx [108,97,115,116])) (ss1 (aaE (eD (aaV ZZ) hr (aC (acD ["_law_last_here","_law_one"] [1,5] (iR2 ZZ.ab (aC eI (aC (eOp aaM (v_ 1) eI) aN))) (fun _ _ _ _ _ _=>(fs1 (tCm oEq (eOp aaM (v_ 0) (v_ 2)) (v_ 1)))) (fun _ _ _ _ _ _=>(v_ 0))) aN)))) ssN)
   (ssC (sIf (tCm oEq (v_ 4) (eSx [110,101,97,114])) (ss1 (aaE (eD (arQ ZZ) hr (aC (v_ 5) (aC (v_ 1) (aC (v_ 2) aN)))))) ssN)
   (ssC (sIf (tCm oEq (v_ 4) (eSx [119,111,114,107])) (ss1 (aaE (eOp af4 eI (eIx xL (eD (aeF ZZ) hr (aC (v_ 1) (aC (v_ 2) aN))) (eUn avR eI))))) ssN)
   (ssC (sIf (tCm oEq (v_ 4) (eSx [110,116,104])) (ss1 (aaE (eD (aaV ZZ) hr (aC (eSl slL (eD (am2 ZZ) hr (aC (v_ 5) (aC (v_ 1) (aC (v_ 2) aN)))) (poS (eOp abP (v_ 6) eI)) (poS (v_ 6))) aN)))) ssN)
   (ss1 (aaE (eOp af4 eI (eIx xL (eD (am2 ZZ) hr (aC (v_ 5) (aC (v_ 1) (aC (v_ 2) aN)))) (eUn avR eI)))))))))))),?_⟩
 obtain⟨hl,hf⟩:=id hlf
 have il:=axO hl.1 hl.2
 have if_:=alY hf.1 hf.2
 cases k with
 |nil=>cases hsp
 |wkd m=>
  refine⟨_,rfl,u,_,rfl,SqT.of hu,rfl,_,_,rfl,_,_,rfl,_,_,rfl,rfl,?_⟩
  refine⟨_,rfl,rfl,_,rfl,agY ⟨_,rfl,_,rfl,abH ?_⟩⟩
  refine⟨_,rfl,_,_,rfl,rfl,_,_,rfl,(rng hlf.1).1,aa6 (fun i z=>z=((wkN m fi) i).map V.int) (rng hlf.1).2.2 rfl ?_ ?_⟩
  ·intro i z D H2 E' F' hi hR hD s2 hz hE hF
   subst hR
   refine⟨_,rfl,_,rfl,_,rfl,_,_,rfl,rfl,_,_,rfl,rfl,_,_,rfl,rfl,(by show (0:Int)<7;decide),_,_,rfl,rfl,(by show (0:Int)<=(fi+(1+(i:Int))-1)%7;omega),_,_,rfl,rfl,rfl,_,rfl,?_⟩
   refine ifI (fun c=>⟨_,rfl,hE _ _ (Same.refl _) ?_⟩) (fun c=>hF _ (Same.refl _) ?_)
   ·have e:(wkN m fi) (i+1)=(wkN m fi) i++[1+(i:Int)]:=by
     show (wkN m fi) i++(if apO m fi i=true then [1+(i:Int)] else [])=_
     have cc:apO m fi i=true:=dU c
     rw[if_pos cc]
    rw[e,ae4]
   ·have e:(wkN m fi) (i+1)=(wkN m fi) i:=by
     show (wkN m fi) i++(if apO m fi i=true then [1+(i:Int)] else [])=_
     have cc:¬apO m fi i=true:=fun z=>c (dS z)
     rw[if_neg cc,bS]
    rw[e]
  ·intro D H2 z hR hD s2 hz
   subst hR
   rw[(rng hlf.1).2.1] at hz
   obtain⟨hv,hlen,hpw,hin⟩:=(show wkD m l fi=ab5 (wkN m fi l.toNat)/\_ from ⟨(aq6 m (aAF hok.1 hok.2) l il fi if_).1,apF (aq6 m (aAF hok.1 hok.2) l il fi if_).2⟩)
   refine⟨D,_,rfl,SqL.of hz,(by omega),(fun n hn=>by have:=hin n hn;omega),fun zs H3 hpz hmem s3=>?_⟩
   rw[ar8 hpz hpw hmem,←hv]
   exact q H3 (s2.trans s3)
 |num m=>
  refine⟨_,rfl,u,_,rfl,SqT.of hu,rfl,_,_,rfl,_,_,rfl,_,_,rfl,rfl,?_⟩
  refine⟨_,rfl,rfl,_,rfl,agY ⟨_,rfl,_,rfl,aaX ⟨_,rfl,rfl,_,rfl,agY ?_⟩⟩⟩
  refine⟨_,rfl,_,_,rfl,rfl,_,_,rfl,(rng hlf.1).1,aa6 (fun i z=>z=((adQ m) i).map V.int) (rng hlf.1).2.2 rfl ?_ ?_⟩
  ·intro i z D H2 E' F' hi hR hD s2 hz hE hF
   subst hR
   refine⟨_,rfl,_,rfl,_,_,rfl,rfl,(by show (0:Int)<=1+(i:Int);omega),_,_,rfl,rfl,rfl,_,rfl,?_⟩
   refine ifI (fun c=>⟨_,rfl,hE _ _ (Same.refl _) ?_⟩) (fun c=>hF _ (Same.refl _) ?_)
   ·have e:(adQ m) (i+1)=(adQ m) i++[1+(i:Int)]:=by
     show (adQ m) i++(if ah8 m i=true then [1+(i:Int)] else [])=_
     have cc:ah8 m i=true:=dU c
     rw[if_pos cc]
    rw[e,ae4]
   ·have e:(adQ m) (i+1)=(adQ m) i:=by
     show (adQ m) i++(if ah8 m i=true then [1+(i:Int)] else [])=_
     have cc:¬ah8 m i=true:=fun z=>c (dS z)
     rw[if_neg cc,bS]
    rw[e]
  ·intro D H2 z hR hD s2 hz
   subst hR
   rw[(rng hlf.1).2.1] at hz
   obtain⟨hv,hlen,hpw,hin⟩:=azZ hok hl
   refine⟨D,_,rfl,SqL.of hz,(by omega),(fun n hn=>by have:=hin n hn;omega),fun zs H3 hpz hmem s3=>?_⟩
   rw[ar8 hpz hpw hmem,←hv]
   exact q H3 (s2.trans s3)
 |lst b=>
  refine⟨_,rfl,u,_,rfl,SqT.of hu,rfl,_,_,rfl,_,_,rfl,_,_,rfl,rfl,?_⟩
  refine⟨_,rfl,rfl,_,rfl,abI (by decide) ⟨_,rfl,rfl,_,rfl,abI (by decide) ⟨_,rfl,rfl,_,rfl,agY ?_⟩⟩⟩
  refine⟨_,rfl,_,_,rfl,rfl,_,_,rfl,(rng hlf.1).1,aa6 (fun i z=>z=((bkN b l) i).map V.int) (rng hlf.1).2.2 rfl ?_ ?_⟩
  ·intro i z D H2 E' F' hi hR hD s2 hz hE hF
   subst hR
   refine⟨_,rfl,_,rfl,_,_,rfl,rfl,_,rfl,rfl,_,rfl,?_⟩
   refine ifI (fun c=>⟨_,rfl,hE _ _ (Same.refl _) ?_⟩) (fun c=>hF _ (Same.refl _) ?_)
   ·have e:(bkN b l) (i+1)=(bkN b l) i++[1+(i:Int)]:=by
     show (bkN b l) i++(if decide (1+(i:Int)+b=l)=true then [1+(i:Int)] else [])=_
     have cc:decide (1+(i:Int)+b=l)=true:=dU c
     rw[if_pos cc]
    rw[e,ae4]
   ·have e:(bkN b l) (i+1)=(bkN b l) i:=by
     show (bkN b l) i++(if decide (1+(i:Int)+b=l)=true then [1+(i:Int)] else [])=_
     have cc:¬decide (1+(i:Int)+b=l)=true:=fun z=>c (dS z)
     rw[if_neg cc,bS]
    rw[e]
  ·intro D H2 z hR hD s2 hz
   subst hR
   rw[(rng hlf.1).2.1] at hz
   obtain⟨hv,hlen,hpw,hin⟩:=(show anR b l=ab5 (bkN b l l.toNat)/\_ from ⟨(az7 l il b (aJW hok.1 hok.2)).1,apF (az7 l il b (aJW hok.1 hok.2)).2⟩)
   refine⟨D,_,rfl,SqL.of hz,(by omega),(fun n hn=>by have:=hin n hn;omega),fun zs H3 hpz hmem s3=>?_⟩
   rw[ar8 hpz hpw hmem,←hv]
   exact q H3 (s2.trans s3)
 |nea d=>
  refine⟨_,rfl,u,_,rfl,SqT.of hu,rfl,_,_,rfl,_,_,rfl,_,_,rfl,rfl,?_⟩
  refine⟨_,rfl,rfl,_,rfl,abI (by decide) ⟨_,rfl,rfl,_,rfl,abI (by decide) ⟨_,rfl,rfl,_,rfl,abI (by decide) ⟨_,rfl,rfl,_,rfl,agY ?_⟩⟩⟩⟩
  exact⟨_,rfl,_,rfl,_,rfl,d,l,fi,rfl,⟨hok,hlf⟩,fun H' s'=>q H' s'⟩
 |wrk=>
  refine⟨_,rfl,u,_,rfl,SqT.of hu,rfl,_,_,rfl,_,_,rfl,_,_,rfl,rfl,?_⟩
  refine⟨_,rfl,rfl,_,rfl,abI (by decide) ⟨_,rfl,rfl,_,rfl,abI (by decide) ⟨_,rfl,rfl,_,rfl,abI (by decide) ⟨_,rfl,rfl,_,rfl,abI (by decide) ⟨_,rfl,rfl,_,rfl,agY ?_⟩⟩⟩⟩⟩
  have hn:=ak0 hlf.last (aU _)
  exact⟨_,rfl,_,rfl,_,_,rfl,hl,fun pw H6 s6 h6=>⟨_,rfl,pw,_,_,_,rfl,rfl,SqL.of h6,aAR _ il _ if_,_,_,rfl,rfl,⟨by omega,by omega,by decide⟩,q H6 s6⟩⟩
 |nth w m=>
  refine⟨_,rfl,u,_,rfl,SqT.of hu,rfl,_,_,rfl,_,_,rfl,_,_,rfl,rfl,?_⟩
  refine⟨_,rfl,rfl,_,rfl,abI (by decide) ⟨_,rfl,rfl,_,rfl,abI (by decide) ⟨_,rfl,rfl,_,rfl,abI (by decide) ⟨_,rfl,rfl,_,rfl,abI (by decide) ⟨_,rfl,rfl,_,rfl,abI (by decide) ⟨_,rfl,rfl,_,rfl,agY ?_⟩⟩⟩⟩⟩⟩
  have hn:=aw2 l il fi if_ w (alY hok.1.1 hok.1.2) m (aO8 hok.2.1 hok.2.2)
  obtain⟨hlen,hpw,hin⟩:=apF hn.2.1
  refine⟨_,rfl,_,rfl,_,rfl,w,l,fi,rfl,hl,fun ps H6 s6 h6=>⟨_,rfl,_,_,rfl,rfl,_,rfl,_,rfl,_,rfl,ps,_,rfl,SqL.of h6,fun pd hpd=>?_⟩⟩
  refine⟨pd,avM (onN fi w l.toNat) (some (m-1)) (some m),rfl,SqL.of (by rw[←aAI];exact aaA),(by omega),(fun n hn=>by have:=hin n hn;omega),fun zs H7 hpz hmem s7=>?_⟩
  rw[ar8 hpz hpw hmem,←hn.1]
  exact q H7 (s6.trans ((aaB hpd _).trans s7))
 |one w=>
  refine⟨_,rfl,u,_,rfl,SqT.of hu,rfl,_,_,rfl,_,_,rfl,_,_,rfl,rfl,?_⟩
  refine⟨_,rfl,rfl,_,rfl,abI (by decide) ⟨_,rfl,rfl,_,rfl,abI (by decide) ⟨_,rfl,rfl,_,rfl,abI (by decide) ⟨_,rfl,rfl,_,rfl,abI (by decide) ⟨_,rfl,rfl,_,rfl,abI (by decide) ⟨_,rfl,rfl,_,rfl,abI (by decide) ?_⟩⟩⟩⟩⟩⟩
  have hn:=awT l il fi if_ w (alY hok.1 hok.2)
  exact⟨_,rfl,_,rfl,_,rfl,w,l,fi,rfl,hl,fun ps H6 s6 h6=>⟨_,rfl,ps,_,_,_,rfl,rfl,SqL.of h6,hn.1,_,_,rfl,rfl,⟨hn.2.1,bZ hn.2.2 (by decide),by decide⟩,q H6 s6⟩⟩
theorem adG:Df P w K mg base "_law_field" 3 ["_law_cell","_law_low","_law_high","_law_mixed"] (am9 K):=by
 refine ZZ.db.dfs sc__law_field (fun vs H Q E h=>?_) (fun f cdv A outer s H vs Q E hr h=>?_)
 ·obtain⟨_,_,_,_,rfl,_⟩:=h
  rfl
 obtain⟨c,lo,hi,bm,rfl,hb,q⟩:=h
 refine⟨_,(ssC (aaJ 4 (eOp aaM (eOp abP (v_ 2) (v_ 1)) eI) sc__law_field.nd)
   (ssC (aaJ 5 (eD (ab2 ZZ) hr (aC (v_ 0) (aC (eOp anA (abR (aC eI (aC eI aN))) (eOp aAV (abR (aC eI (aC (v_ 4) (aC (v_ 4) (aC eI aN))))) eI)) (aC (v_ 3) aN)))) sc__law_field.nd)
   (ssC (sIf (tCm oEq (eIx xL (v_ 5) eI) eI) (ss1 (aaE (aa5 (aC (eSx [42]) (aC (eD (aaV ZZ) hr (aC (eCT cLR ZZ.as PyProof.Rows.boot_list (aC (eCT aD4 ZZ.ab dW (aC (v_ 1) (aC (eOp aaM (v_ 2) eI) aN))) aN)) aN)) aN))))) ssN)
   (ssC (aaJ 6 (abR aN) sc__law_field.nd)
   (ssC (aaJ 7 (abR aN) sc__law_field.nd)
   (ssC (aeK (iR1 ZZ.ab (aC (eOp aaM eI (eIx xL (v_ 5) eI)) aN)) (gN 8 sc__law_field.nd) (ssC (ag0 (eSl slL (v_ 5) (poS (eOp aaM eI (eOp adR eI (v_ 8)))) (poS (eOp aaM eI (eOp adR eI (v_ 8))))) (aFG (gsC (gN 9 sc__law_field.nd) (gsC (gN 10 sc__law_field.nd) (gsC (gN 11 sc__law_field.nd) (gsC (gN 12 sc__law_field.nd) gsN))))))
   (ssC (ag0 (eD (adW ZZ) hr (aC (v_ 9) (aC (v_ 10) (aC (v_ 11) (aC (v_ 12) (aC (aa5 (aC (v_ 1) (aC (v_ 2) aN))) aN)))))) (gTu (gsC (gN 13 sc__law_field.nd) (gsC (gN 14 sc__law_field.nd) gsN))))
   (ssC (akD (akW (v_ 6) (v_ 13)))
   (ss1 (aaJ 7 (eOp aLB (v_ 7) (v_ 14)) sc__law_field.nd))))) PassesOwn.never)
   (ss1 (aaE (aa5 (aC (aeS (eSx [44]) (v_ 6)) (aC (eD (aaV ZZ) hr (aC (v_ 7) aN)) aN))))))))))),?_⟩
 have hwd:(0:Int)<hi-lo+1/\hi-lo+1<1073741824:=by omega
 refine⟨_,rfl,_,rfl,_,_,rfl,rfl,_,_,rfl,rfl,?_⟩
 obtain⟨W,eW⟩:∃W,W=hi-lo+1:=⟨_,rfl⟩
 show acO 4 (V.int (hi-lo+1)) _ _ _
 rw[←eW]
 have e18:∀z∈([5,4,8,W,W,99,8,W,W,99,8,W,W,99,8,W,W,99]:List Int),0<z/\z<1073741824:=fun z hz=>by
  simp only[aR,cB,or_false] at hz
  omega
 refine⟨_,rfl,(zL 2),fun x1 n1=>⟨_,rfl,_,rfl,(zL 4),fun x2 n2=>⟨x2,4,_,rfl,rfl,aaA,(by decide),(by decide),(by show 4*4<=sizeLine;decide),fun x3 n3=>⟨x1,x3,_,_,rfl,rfl,(aaB n3 _) _ _ ((aaB n2 _) _ _ aaA),aaA,(by show 2+16<=sizeLine;decide),fun ls hls=>⟨_,rfl,c,ls,bm,[5,4,8,W,W,99,8,W,W,99,8,W,W,99,8,W,W,99],rfl,SqL.of aaA,e18,(by show 18<=63;decide),fun ds p H3 s3 hp hd=>?_⟩⟩⟩⟩⟩
 obtain⟨d0,d1,d2,d3,d4,d5,d6,d7,d8,d9,d10,d11,d12,d13,d14,d15,d16,d17,rfl,k0,k1,k2,k6,k10,k14⟩:∃d0 d1 d2 d3 d4 d5 d6 d7 d8 d9 d10 d11 d12 d13 d14 d15 d16 d17:Int,ds=[d0,d1,d2,d3,d4,d5,d6,d7,d8,d9,d10,d11,d12,d13,d14,d15,d16,d17]/\(0<=d0/\d0<5)/\(0<=d1/\d1<4)/\(0<=d2/\d2<8)/\(0<=d6/\d6<8)/\(0<=d10/\d10<8)/\(0<=d14/\d14<8):=by cases hd with | cons g0 r0=>cases r0 with | cons g1 r1=>cases r1 with | cons g2 r2=>cases r2 with | cons g3 r3=>cases r3 with | cons g4 r4=>cases r4 with | cons g5 r5=>cases r5 with | cons g6 r6=>cases r6 with | cons g7 r7=>cases r7 with | cons g8 r8=>cases r8 with | cons g9 r9=>cases r9 with | cons g10 r10=>cases r10 with | cons g11 r11=>cases r11 with | cons g12 r12=>cases r12 with | cons g13 r13=>cases r13 with | cons g14 r14=>cases r14 with | cons g15 r15=>cases r15 with | cons g16 r16=>cases r16 with | cons g17 r17=>cases r17;exact⟨_,_,_,_,_,_,_,_,_,_,_,_,_,_,_,_,_,_,rfl,g0,g1,g2,g6,g10,g14⟩
 have s13:Same H H3:=(aaB n1 _).trans ((aaB n2 _).trans ((aaB n3 _).trans ((aaB hls _).trans s3)))
 refine⟨_,rfl,p,_,_,_,rfl,rfl,SqL.of hp,rfl,rfl,_,rfl,ifI (fun c0=>?star) (fun c0=>?more)⟩
 case star=>
  have n2':=acR (a:=lo) (b:=hi) (s:=1) hb.1 (by omega) (by decide)
  have r2:=adZ (a:=lo) (b:=hi) (s:=1) (lo:=lo) (hi:=hi) hb.1 (by omega) (by omega) (by decide) (aU _) (aU _)
  refine⟨_,rfl,_,rfl,_,_,rfl,rfl,_,_,rfl,fun r hr=>⟨r,lo,hi+1,1,(Builtin.Range.rangeSize lo (hi+1) 1).toNat,rfl,aaA,acH hb.1 (by omega) (by omega) (by omega) (by decide) (by decide),n2'.2,(by have:=n2'.1;omega),fun u hu=>⟨u,ab4 lo hi 1,rfl,SqL.of (by rw[abY,bM];exact aaA),(by have:=r2.2.2;omega),(fun n hn=>by have:=r2.1 n hn;omega),fun zs H5 hpw hmem s5=>⟨(zL 2),fun t ht=>?_⟩⟩⟩⟩
  refine q t [42] (ab5 zs) _ (s13.trans ((aaB hr _).trans ((aaB hu _).trans (s5.trans (aaB ht _))))) aaA ?_ (by rw[adF hpw hmem (fun n hn=>by have:=r2.1 n hn;omega)];exact⟨acV r2.2.1 (fun n hn=>by have:=r2.1 n hn;omega),ahY fun n hn=>by have:=r2.1 n hn;omega⟩)
  rw[adF hpw hmem (fun n hn=>by have:=r2.1 n hn;omega),show aa3 (ab4 lo hi 1)=aa3 [ab4 lo hi 1].flatten by simp]
  exact atW (ws:=[[42]]) (.cons (i0 hb.1 (by omega) (by omega)) .nil) (dD _ _) (by decide)
 case more=>
  refine⟨(zL 0),fun T hT=>⟨(zL 0),fun N0 hN0=>?_⟩⟩
  have s1:=(aaB hT (.lst [])).trans (aaB hN0 (.lst []))
  have hTN:T≠N0:=fun e=>by rw[←e,aaA] at hN0;cases hN0
  refine⟨_,rfl,p,_,_,_,rfl,rfl,SqL.of (s1 _ _ hp),rfl,_,_,rfl,rfl,_,rfl,?lo,?hi,afS (fun i σ H2=>∃(v8 v9 v10 v11 v12 v13 v14:Option V) (N:Addr) (ws:List (List Nat)) (nss:List (List Int)),σ=[some (.int c),some (.int lo),some (.int hi),some (.bl bm),some (.int W),some (.ref p),some (.ref T),some (.ref N),v8,v9,v10,v11,v12,v13,v14]/\T≠N/\Same H3 H2/\H2 T=some (.lst (ws.map fun x=>V.str (Tx x)))/\H2 N=some (.lst (nss.flatten.map V.int))/\Paired (acP lo hi) ws nss/\ws.length=i) ⟨_,_,_,_,_,_,_,N0,[],[],rfl,hTN,s1,by rw[aaH hTN];exact aaA,aaA,.nil,rfl⟩ ?turn ?done⟩
  case lo=>omega
  case hi=>omega
  case turn=>
   rintro i σ H2 hi' ⟨v8,v9,v10,v11,v12,v13,v14,N,ws,nss,rfl,tn,s2p,h2,h3,hP,lw⟩
   obtain⟨w1,w2,w3,w4,ec,hw⟩:∃w1 w2 w3 w4:Int,ae8 ([d0,d1,d2,d3,d4,d5,d6,d7,d8,d9,d10,d11,d12,d13,d14,d15,d16,d17].map V.int) (some (2+4*(0+(i:Int)))) (some (6+4*(0+(i:Int))))=[.int w1,.int w2,.int w3,.int w4]/\0<=w1/\w1<8:=by
    match i,(show i<4 by omega) with
    |0,_=>exact⟨d2,d3,d4,d5,rfl,k2⟩
    |1,_=>exact⟨d6,d7,d8,d9,rfl,k6⟩
    |2,_=>exact⟨d10,d11,d12,d13,rfl,k10⟩
    |3,_=>exact⟨d14,d15,d16,d17,rfl,k14⟩
   refine⟨_,rfl,_,rfl,_,_,rfl,rfl,.inl ⟨by decide,by decide⟩,_,_,rfl,rfl,_,rfl,_,rfl,_,_,rfl,rfl,.inl ⟨by decide,by decide⟩,_,_,rfl,rfl,_,rfl,p,_,rfl,SqL.of (s2p _ _ hp),fun pc hpc=>?_⟩
   rw[ec]
   have s5:=aaB hpc (.lst [V.int w1,V.int w2,V.int w3,V.int w4])
   refine⟨pc,_,rfl,SqL.of aaA,rfl,_,_,rfl,_,_,rfl,_,_,rfl,_,_,rfl,rfl,?_⟩
   refine⟨_,rfl,_,rfl,_,rfl,_,rfl,_,rfl,_,rfl,(zL 2),fun tb htb=>⟨tb,w1,w2,w3,w4,lo,hi,rfl,SqT.of aaA,⟨hb.1,by omega,by omega⟩,fun t u tw ns H6 s6 ht hu it h42=>?_⟩⟩
   have s26:Same H2 H6:=s5.trans ((aaB htb _).trans s6)
   refine⟨t,_,rfl,SqT.of ht,rfl,_,_,rfl,_,_,rfl,rfl,?_⟩
   have hT6:H6 T=some (.lst (ws.map fun x=>V.str (Tx x))):=s26 _ _ h2
   have hN6:H6 N=some (.lst (nss.flatten.map V.int)):=s26 _ _ h3
   have ia:=adI hP
   refine⟨_,rfl,.inl ⟨rfl,_,SqL.of hT6⟩,_,rfl,T,_,_,rfl,rfl,hT6,(by rw[aM,dQ];omega),?_⟩
   have hne2:u≠T:=fun e=>by
    rw[e,hT6] at hu
    have hz:=it.2.2.2.1
    cases ws with
    |nil=>cases ns with
     |nil=>exact hz rfl
     |cons x y=>cases hu
    |cons x y=>cases ns with
     |nil=>exact hz rfl
     |cons x' y'=>cases hu
   refine⟨_,rfl,_,rfl,N,u,_,_,rfl,rfl,SqL.of (by rw[aaH (Ne.symm tn)];exact hN6),SqL.of (by rw[aaH hne2];exact hu),(by rw[aM,aM,dQ];have:=it.2.2.2.2;omega),fun N' hN'=>?_⟩
   have hN'T:T≠N':=fun e=>by rw[←e,aaA] at hN';cases hN'
   refine⟨_,_,_,_,_,_,_,N',ws++[tw],nss++[ns],rfl,hN'T,?_,?_,?_,ajQ hP it,by rw[aP,bL,lw]⟩
   ·exact (aa4 hT (s2p.trans s26)).trans (aaB hN' _)
   ·rw[aaH hN'T,aT]
    exact aaA
   ·rw[List.flatten_append,List.flatten_singleton,aT]
    exact aaA
  case done=>
   rintro σ H2 ⟨v8,v9,v10,v11,v12,v13,v14,N,ws,nss,rfl,tn,s2p,h2,h3,hP,lw⟩
   have ia:=adI hP
   have hlen:=ae3 ws fun x hx=>(ia.1 x hx).2.2
   have hne:ws≠[]:=fun e=>by rw[e] at lw;simp at lw;omega
   refine⟨rfl,_,rfl,44,T,ws,rfl,rfl,SqL.of h2,(by omega),_,rfl,N,nss.flatten,rfl,SqL.of h3,(by have:=ia.2.2;omega),(fun n hn=>by have:=ia.2.1 n hn;omega),fun zs H5 hpw hmem s5=>⟨(zL 2),fun t ht=>?_⟩⟩
   refine q t _ (ab5 zs) _ (s13.trans (s2p.trans (s5.trans (aaB ht _)))) aaA ?_ (by rw[adF hpw hmem (fun n hn=>by have:=ia.2.1 n hn;omega)];exact⟨acV (aBH hP hne) (fun n hn=>by have:=ia.2.1 n hn;omega),ahY fun n hn=>by have:=ia.2.1 n hn;omega⟩)
   rw[adF hpw hmem (fun n hn=>by have:=ia.2.1 n hn;omega)]
   exact atW hP hne (by omega)
theorem adE:Df P w K mg base "_law_day_field" 3 ["_law_cell","_law_week","_law_mixed"] (ahU K):=by
 refine ZZ.bt.dfs sc__law_day_field (fun vs H Q E h=>?_) (fun f cdv A outer s H vs Q E hr h=>?_)
 ·obtain⟨_,_,_,rfl,_⟩:=h
  rfl
 obtain⟨c,b,bm,rfl,q⟩:=h
 refine⟨_,(ssC (aaJ 3 (eD (ab2 ZZ) hr (aC (v_ 0) (aC (eOp anA (abR (aC eI (aC eI aN))) (eOp aAV (abR (azD [16,31,31,99])) eI)) (aC (v_ 2) aN)))) sc__law_day_field.nd)
   (ssC (sIf (tCm oEq (eIx xL (v_ 3) eI) eI) (ss1 (aaE (aa5 (aC (eSx [42]) (aC eN aN))))) ssN)
   (ssC (aaJ 4 (abR aN) sc__law_day_field.nd)
   (ssC (aaJ 5 (abR aN) sc__law_day_field.nd)
   (ssC (aeK (iR1 ZZ.ab (aC (eOp aaM eI (eIx xL (v_ 3) eI)) aN)) (gN 6 sc__law_day_field.nd) (ssC (ag0 (eD (apN ZZ) hr (aC (eSl slL (v_ 3) (poS (eOp aaM eI (eOp adR eI (v_ 6)))) (poS (eOp aaM eI (eOp adR eI (v_ 6))))) (aC (v_ 1) aN))) (gTu (gsC (gN 7 sc__law_day_field.nd) (gsC (gN 8 sc__law_day_field.nd) gsN))))
   (ssC (akD (akW (v_ 4) (v_ 7)))
   (ss1 (akD (akW (v_ 5) (v_ 8)))))) PassesOwn.never)
   (ss1 (aaE (aa5 (aC (aeS (eSx [44]) (v_ 4)) (aC (v_ 5) aN)))))))))),?_⟩
 have e18:∀z∈([3,4,16,31,31,99,16,31,31,99,16,31,31,99,16,31,31,99]:List Int),0<z/\z<1073741824:=by decide +kernel
 refine⟨_,rfl,(zL 2),fun x1 n1=>⟨(zL 4),fun x2 n2=>⟨x2,4,_,rfl,rfl,aaA,(by decide),(by decide),(by show 4*4<=sizeLine;decide),fun x3 n3=>⟨x1,x3,_,_,rfl,rfl,(aaB n3 _) _ _ ((aaB n2 _) _ _ aaA),aaA,(by show 2+16<=sizeLine;decide),fun ls hls=>⟨_,rfl,c,ls,bm,[3,4,16,31,31,99,16,31,31,99,16,31,31,99,16,31,31,99],rfl,SqL.of aaA,e18,(by show 18<=63;decide),fun ds p H3 s3 hp hd=>?_⟩⟩⟩⟩⟩
 obtain⟨d0,d1,d2,d3,d4,d5,d6,d7,d8,d9,d10,d11,d12,d13,d14,d15,d16,d17,rfl,k0,k1,k2,k6,k10,k14⟩:∃d0 d1 d2 d3 d4 d5 d6 d7 d8 d9 d10 d11 d12 d13 d14 d15 d16 d17:Int,ds=[d0,d1,d2,d3,d4,d5,d6,d7,d8,d9,d10,d11,d12,d13,d14,d15,d16,d17]/\(0<=d0/\d0<3)/\(0<=d1/\d1<4)/\(0<=d2/\d2<16)/\(0<=d6/\d6<16)/\(0<=d10/\d10<16)/\(0<=d14/\d14<16):=by cases hd with | cons g0 r0=>cases r0 with | cons g1 r1=>cases r1 with | cons g2 r2=>cases r2 with | cons g3 r3=>cases r3 with | cons g4 r4=>cases r4 with | cons g5 r5=>cases r5 with | cons g6 r6=>cases r6 with | cons g7 r7=>cases r7 with | cons g8 r8=>cases r8 with | cons g9 r9=>cases r9 with | cons g10 r10=>cases r10 with | cons g11 r11=>cases r11 with | cons g12 r12=>cases r12 with | cons g13 r13=>cases r13 with | cons g14 r14=>cases r14 with | cons g15 r15=>cases r15 with | cons g16 r16=>cases r16 with | cons g17 r17=>cases r17;exact⟨_,_,_,_,_,_,_,_,_,_,_,_,_,_,_,_,_,_,rfl,g0,g1,g2,g6,g10,g14⟩
 have s13:Same H H3:=(aaB n1 _).trans ((aaB n2 _).trans ((aaB n3 _).trans ((aaB hls _).trans s3)))
 refine⟨_,rfl,p,_,_,_,rfl,rfl,SqL.of hp,rfl,rfl,_,rfl,ifI (fun c0=>?star) (fun c0=>?more)⟩
 case star=>exact⟨(zL 2),fun t ht=>q t [42] .non none _ (s13.trans (aaB ht _)) aaA rfl (awG b) trivial⟩
 case more=>
  refine⟨(zL 0),fun T hT=>⟨(zL 0),fun S hSn=>?_⟩⟩
  have s1:=(aaB hT (.lst [])).trans (aaB hSn (.lst []))
  have hTS:T≠S:=fun e=>by rw[←e,aaA] at hSn;cases hSn
  have hSn':H3 S=none:=by rw[aaH (Ne.symm hTS)] at hSn;exact hSn
  refine⟨_,rfl,p,_,_,_,rfl,rfl,SqL.of (s1 _ _ hp),rfl,_,_,rfl,rfl,_,rfl,?lo,?hi,afS (fun i σ H2=>∃(v6 v7 v8:Option V) (ws:List (List Nat)) (us:List Addr) (ks:List Mk),σ=[some (.int c),some (.bl b),some (.bl bm),some (.ref p),some (.ref T),some (.ref S),v6,v7,v8]/\Same H3 H2/\H2 T=some (.lst (ws.map fun x=>V.str (Tx x)))/\H2 S=some (.lst (us.map V.ref))/\Ft (TpAt b H2) us ks/\Ws b ws ks/\(∀w∈ws,w≠[42])/\ws.length=i/\us.length=i) ⟨_,_,_,[],[],[],rfl,s1,by rw[aaH hTS];exact aaA,aaA,.nil,.nil,(fun w hw=>nomatch hw),rfl,rfl⟩ ?turn ?done⟩
  case lo=>omega
  case hi=>omega
  case turn=>
   rintro i σ H2 hi ⟨v6,v7,v8,ws,us,ks,rfl,s2p,h2,h3,fT,hW,n42',lw,lu⟩
   obtain⟨w1,w2,w3,w4,ec,hw⟩:∃w1 w2 w3 w4:Int,ae8 ([d0,d1,d2,d3,d4,d5,d6,d7,d8,d9,d10,d11,d12,d13,d14,d15,d16,d17].map V.int) (some (2+4*(0+(i:Int)))) (some (6+4*(0+(i:Int))))=[.int w1,.int w2,.int w3,.int w4]/\0<=w1/\w1<16:=by
    match i,(show i<4 by omega) with
    |0,_=>exact⟨d2,d3,d4,d5,rfl,k2⟩
    |1,_=>exact⟨d6,d7,d8,d9,rfl,k6⟩
    |2,_=>exact⟨d10,d11,d12,d13,rfl,k10⟩
    |3,_=>exact⟨d14,d15,d16,d17,rfl,k14⟩
   refine⟨_,rfl,_,rfl,_,_,rfl,rfl,.inl ⟨by decide,by decide⟩,_,_,rfl,rfl,_,rfl,_,rfl,_,_,rfl,rfl,.inl ⟨by decide,by decide⟩,_,_,rfl,rfl,_,rfl,p,_,rfl,SqL.of (s2p _ _ hp),fun pc hpc=>?_⟩
   rw[ec]
   have s5:=aaB hpc (.lst [V.int w1,V.int w2,V.int w3,V.int w4])
   refine⟨_,rfl,pc,b,w1,w2,w3,w4,rfl,SqL.of aaA,hw,fun t u tw k H6 s6 ht hu hok hsp hwk hST hCl h42=>?_⟩
   have s26:Same H2 H6:=s5.trans s6
   refine⟨t,_,rfl,SqT.of ht,rfl,_,_,rfl,_,_,rfl,rfl,?_⟩
   have hT6:H6 T=some (.lst (ws.map fun x=>V.str (Tx x))):=s26 _ _ h2
   have hS6:H6 S=some (.lst (us.map V.ref)):=s26 _ _ h3
   refine⟨_,rfl,.inl ⟨rfl,_,SqL.of hT6⟩,_,rfl,T,_,_,rfl,rfl,hT6,(by rw[aM,dQ];omega),?_⟩
   have hS7:(upd H6 T (.lst ((ws.map fun x=>V.str (Tx x))++[.str (Tx tw)]))) S=some (.lst (us.map V.ref)):=by rw[aaH (Ne.symm hTS)];exact hS6
   refine⟨_,rfl,.inl ⟨rfl,_,SqL.of hS7⟩,_,rfl,S,_,_,rfl,rfl,hS7,(by rw[aM,dQ];omega),?_⟩
   have kp:=(ab3 (l':=(ws.map fun x=>V.str (Tx x))++[.str (Tx tw)]) hT6).trans (ab3 (l':=us.map V.ref++[.ref u]) hS7)
   refine⟨_,_,_,ws++[tw],us++[u],ks++[k],rfl,aa4 hSn' (aa4 hT (s2p.trans s26)),?_,(by rw[aT];exact aaA),Ft.app ((fT.keepT s26.keep).keepT kp) (.cons ⟨kp.tup hu,hsp,hwk,hok⟩ .nil),auF hW ⟨hCl,hST⟩,(fun w hw=>(bK.mp hw).elim (n42' w) fun z=>by rw[bG.mp z];exact h42),(by rw[aP,bL,lw]),(by rw[aP,bL,lu])⟩
   rw[aaH hTS,aT]
   exact aaA
  case done=>
   rintro σ H2 ⟨v6,v7,v8,ws,us,ks,rfl,s2p,h2,h3,fT,hW,n42',lw,lu⟩
   have hlen:=ae3 ws fun x hx=>(hW.cl x hx).2.2
   have hne:ws≠[]:=fun e=>by rw[e] at lw;simp at lw;omega
   refine⟨rfl,_,rfl,44,T,ws,rfl,rfl,SqL.of h2,(by omega),_,rfl,(zL 2),fun t ht=>?_⟩
   have sE:=aaB ht (.tup [V.str (Tx (aaK 44 ws)),V.ref S])
   exact q t _ (.ref S) (some ks) _ (s13.trans (s2p.trans sE)) aaA ⟨S,us,rfl,sE _ _ h3,fT.keepT sE.keep⟩ (aH7 hW hne (by omega) n42' fT.okT) (aEI hW hne (by omega))
theorem akX:Df P w K mg base "_law_days_in" 4 ["_law_row_here","_law_month","_law_last_here","_law_first"] (akG K):=by
 refine ZZ.cg.dfs sc__law_days_in (fun vs H Q E h=>?_) (fun f cdv A outer s H vs Q E hr h=>?_)
 ·obtain⟨_,_,_,_,_,_,_,_,_,_,_,rfl,_⟩:=h
  rfl
 obtain⟨r,mn,l,fi,m0,m1,m3,v2,v4,kd,kw,rfl,hr_,hd,hw,hm,hmn,hlf,q⟩:=h
 refine⟨_,(ssC (sIf (tCm oEq (eOp akF (eOp alD (eIx xL (v_ 0) eI) (v_ 1)) eI) eI) (ss1 (aaE eI)) ssN)
   (ssC (sIf (tW (aqU (tCm afI (eIx xL (v_ 0) eI) eN) (ajE (tCm afI (eIx xL (v_ 0) eI) eN)))) (ss1 (aaE (eOp abP (eOp af4 eI (eOp aaM (v_ 2) eI)) eI))) ssN)
   (ssC (aaJ 4 eI sc__law_days_in.nd)
   (ssC (aeK (iT (aa5 (aC (aa5 (aC (eIx xL (v_ 0) eI) (aC eB aN))) (aC (aa5 (aC (eIx xL (v_ 0) eI) (aC eB aN))) aN)))) (gTu (gsC (gN 5 sc__law_days_in.nd) (gsC (gN 6 sc__law_days_in.nd) gsN))) (ss1 (sIf (tCm aDG (v_ 5) eN) (ss1 (aeK (iL (v_ 5)) (gN 7 sc__law_days_in.nd) (ss1 (aaJ 4 (eOp oOr (v_ 4) (eD (apP ZZ) hr (aC (v_ 7) (aC (v_ 2) (aC (v_ 3) (aC (v_ 6) aN)))))) sc__law_days_in.nd)) PassesOwn.never)) ssN)) PassesOwn.never)
   (ss1 (aaE (v_ 4))))))),?_⟩
 refine⟨_,rfl,r,_,_,_,rfl,rfl,SqL.of hr_,rfl,_,rfl,_,_,rfl,rfl,(by show (0:Int)<=mn;omega),_,_,rfl,rfl,rfl,_,rfl,ifI (fun c=>?_) (fun c=>?_)⟩
 ·rw[if_neg (by rw[(agT hm _).mp c];exact aW)] at q
  exact q H (Same.refl _)
 have ct:tb m3 mn.toNat=true:=by
  cases e:tb m3 mn.toNat
  ·exact absurd ((agT hm _).mpr e) c
  ·rfl
 rw[if_pos ct] at q
 by_cases hk:kd.isNone=true/\kw.isNone=true
 ·have ev:v2=.non:=by
   cases kd with
   |none=>exact hd
   |some ks=>cases hk.1
  have ew:v4=.non:=by
   cases kw with
   |none=>exact hw
   |some ks=>cases hk.2
  refine⟨_,rfl,r,_,_,_,rfl,rfl,SqL.of hr_,rfl,rfl,_,rfl,?_⟩
  rw[dU ev]
  refine abH ⟨_,rfl,r,_,_,_,rfl,rfl,SqL.of hr_,rfl,rfl,_,rfl,?_⟩
  rw[dU ew]
  have e2:ab1 kd kw l fi=1*2^(l+1).toNat-2:=by
   unfold ab1
   rw[if_pos hk,show (l+1).toNat=l.toNat+1 by have:=hlf.1.1;omega,Int.pow_succ]
   omega
  rw[e2] at q
  have:=hlf.1
  exact abH ⟨_,rfl,_,_,rfl,rfl,_,_,rfl,rfl,⟨by omega,by omega,by decide⟩,_,_,rfl,rfl,q H (Same.refl _)⟩
 ·have e3:ab1 kd kw l fi=orO kw (orO kd 0 l fi) l fi:=by unfold ab1;rw[if_neg hk]
  rw[e3] at q
  refine⟨_,rfl,r,_,_,_,rfl,rfl,SqL.of hr_,rfl,rfl,_,rfl,iteB ?B fun hB hc=>⟨_,rfl,r,_,_,_,rfl,rfl,SqL.of hr_,rfl,rfl,_,rfl,?T⟩⟩
  case T=>
   have ew:decide (v4=.non)=false:=by
    cases kw with
    |none=>
     cases kd with
     |none=>exact absurd ⟨rfl,rfl⟩ hk
     |some ks=>obtain⟨_,_,rfl,_⟩:=hd;exact absurd (show false=true from hc) aW
    |some ks=>obtain⟨_,_,rfl,_⟩:=hw;rfl
   show if decide (v4=V.non)=true then _ else _
   rw[ew]
   exact aaX hB
  refine⟨_,rfl,r,_,_,_,rfl,rfl,SqL.of hr_,rfl,(zL 2),fun t1 ht1=>⟨_,rfl,r,_,_,_,rfl,rfl,SqL.of ((aaB ht1 _) _ _ hr_),rfl,(zL 2),fun t2 ht2=>⟨(zL 2),fun tt ht=>?_⟩⟩⟩
  have a1:=aaB ht1 (.tup [v2,V.bl false])
  have a2:=aaB ht2 (.tup [v4,V.bl true])
  have a3:=aaB ht (.tup [V.ref t1,V.ref t2])
  refine⟨tt,rfl,⟨_,SqT.of aaA⟩,ak4 (K:=K) (a:=tt) (xs:=[.ref t1,.ref t2]) (fun i σ H2=>∃v5 v6 v7:Option V,σ=[some (.ref r),some (.int mn),some (.int l),some (.int fi),some (.int (match i with | 0=>0 | 1=>orO kd 0 l fi | _=>orO kw (orO kd 0 l fi) l fi)),v5,v6,v7]/\Same (upd (upd (upd H t1 (.tup [v2,V.bl false])) t2 (.tup [v4,V.bl true])) tt (.tup [V.ref t1,V.ref t2])) H2) ⟨_,_,_,rfl,Same.refl _⟩ (fun i σ H2 _ ⟨_,_,_,_,s2⟩=>SqT.of (s2 _ _ aaA)) ?turn ?done⟩
  case done=>
   rintro σ H2 ⟨v5,v6,v7,rfl,s2⟩
   exact⟨_,rfl,q H2 (a1.trans (a2.trans (a3.trans s2)))⟩
  case turn=>
   rintro i x σ H2 hx ⟨v5,v6,v7,rfl,s2⟩
   have sA:=a1.trans (a2.trans (a3.trans s2))
   match i,hx with
   |0,hx=>
    cases hx
    refine⟨t1,_,rfl,SqT.of (s2 _ _ (a3 _ _ (a2 _ _ aaA))),rfl,_,_,rfl,_,_,rfl,rfl,?_⟩
    cases kd with
    |none=>
     have ev:v2=.non:=hd
     subst ev
     refine⟨_,rfl,rfl,_,rfl,?_⟩
     show if (!decide (V.non=V.non))=true then _ else _
     rw[dU rfl]
     exact aaX ⟨_,_,_,rfl,s2⟩
    |some ks=>
     obtain⟨pl,us,rfl,hl,fT⟩:=hd
     have okT:=fT.okT
     have lk:us.length=ks.length:=Paired.length fT
     refine⟨_,rfl,rfl,_,rfl,abH ⟨_,rfl,pl,rfl,⟨_,SqL.of (sA _ _ hl)⟩,abT (K:=K) (a:=pl) (xs:=us.map V.ref) (fun j σ H4=>∃v7:Option V,σ=[some (.ref r),some (.int mn),some (.int l),some (.int fi),some (.int (Builtin.bitOr 0 (orK (ks.take j) l fi))),some (.ref pl),some (.bl false),v7]/\Same H2 H4) ⟨v7,by rw[show orK (ks.take 0) l fi=0 from rfl,aGG (aU 0)]<;>rfl,Same.refl _⟩ (fun j σ H4 _ ⟨_,_,s4⟩=>SqL.of ((sA.trans s4) _ _ hl)) ?tnfalse ?dnfalse⟩⟩
     case dnfalse=>
      rintro σ H4 ⟨v7,rfl,s4⟩
      rw[aM,lk,bQ]
      exact⟨_,_,_,rfl,s2.trans s4⟩
     case tnfalse=>
      rintro j x σ H4 hx ⟨v7,rfl,s4⟩
      rw[aY] at hx
      cases ez:us[j]? with
      |none=>rw[ez] at hx;cases hx
      |some u=>
       rw[ez] at hx
       obtain rfl:V.ref u=x:=a8 hx
       obtain⟨k,ek,hk⟩:=Ft.get fT ez
       obtain⟨hu,hsp,hwk,hok⟩:=hk
       refine⟨_,rfl,_,rfl,_,rfl,_,rfl,_,rfl,u,k,l,fi,(by rw[hwk];rfl),(sA.trans s4) _ _ hu,hok,hsp,hlf,fun H5 s5=>⟨_,_,rfl,rfl,some (.ref u),?_,s4.trans s5⟩⟩
       rw[←asB hlf (fun z hz=>(okT z hz).2.2) ek (aU 0)]
       rfl
   |1,hx=>
    cases hx
    refine⟨t2,_,rfl,SqT.of (s2 _ _ (a3 _ _ aaA)),rfl,_,_,rfl,_,_,rfl,rfl,?_⟩
    have nn:0<=orO kd 0 l fi:=auU (b:=false) hlf (fun ks e k hmem=>by subst e;obtain⟨_,us,_,_,fT⟩:=hd;exact (fT.okT k hmem).2.2) (aU 0)
    cases kw with
    |none=>
     have ev:v4=.non:=hw
     subst ev
     refine⟨_,rfl,rfl,_,rfl,?_⟩
     show if (!decide (V.non=V.non))=true then _ else _
     rw[dU rfl]
     exact aaX ⟨_,_,_,rfl,s2⟩
    |some ks=>
     obtain⟨pl,us,rfl,hl,fT⟩:=hw
     have okT:=fT.okT
     have lk:us.length=ks.length:=Paired.length fT
     refine⟨_,rfl,rfl,_,rfl,abH ⟨_,rfl,pl,rfl,⟨_,SqL.of (sA _ _ hl)⟩,abT (K:=K) (a:=pl) (xs:=us.map V.ref) (fun j σ H4=>∃v7:Option V,σ=[some (.ref r),some (.int mn),some (.int l),some (.int fi),some (.int (Builtin.bitOr (orO kd 0 l fi) (orK (ks.take j) l fi))),some (.ref pl),some (.bl true),v7]/\Same H2 H4) ⟨v7,by rw[show orK (ks.take 0) l fi=0 from rfl,aGG nn]<;>rfl,Same.refl _⟩ (fun j σ H4 _ ⟨_,_,s4⟩=>SqL.of ((sA.trans s4) _ _ hl)) ?tntrue ?dntrue⟩⟩
     case dntrue=>
      rintro σ H4 ⟨v7,rfl,s4⟩
      rw[aM,lk,bQ]
      exact⟨_,_,_,rfl,s2.trans s4⟩
     case tntrue=>
      rintro j x σ H4 hx ⟨v7,rfl,s4⟩
      rw[aY] at hx
      cases ez:us[j]? with
      |none=>rw[ez] at hx;cases hx
      |some u=>
       rw[ez] at hx
       obtain rfl:V.ref u=x:=a8 hx
       obtain⟨k,ek,hk⟩:=Ft.get fT ez
       obtain⟨hu,hsp,hwk,hok⟩:=hk
       refine⟨_,rfl,_,rfl,_,rfl,_,rfl,_,rfl,u,k,l,fi,(by rw[hwk];rfl),(sA.trans s4) _ _ hu,hok,hsp,hlf,fun H5 s5=>⟨_,_,rfl,rfl,some (.ref u),?_,s4.trans s5⟩⟩
       rw[←asB hlf (fun z hz=>(okT z hz).2.2) ek nn]
       rfl
   |i+2,hx=>cases hx
theorem as8:Df P w K mg base "_law_row" 4 ["_law_cells_here","_law_mixed"] (asU K):=by
 refine ZZ.en.dfs sc__law_row (fun vs H Q E h=>?_) (fun f cdv A outer s H vs Q E hr h=>?_)
 ·obtain⟨_,_,_,_,_,_,_,rfl,_⟩:=h
  rfl
 obtain⟨a,c0,c1,c2,c3,c4,bm,rfl,hC,q⟩:=h
 refine⟨_,(ssC (aaJ 2 (eD (adG ZZ) hr (aC (eIx xL (v_ 0) eI) (aC eI (aC eI (aC (v_ 1) aN))))) sc__law_row.nd)
   (ssC (aaJ 3 (eD (adG ZZ) hr (aC (eIx xL (v_ 0) eI) (aC eI (aC eI (aC (v_ 1) aN))))) sc__law_row.nd)
   (ssC (aaJ 4 (eD (adE ZZ) hr (aC (eIx xL (v_ 0) eI) (aC eB (aC (v_ 1) aN)))) sc__law_row.nd)
   (ssC (aaJ 5 (eD (adG ZZ) hr (aC (eIx xL (v_ 0) eI) (aC eI (aC eI (aC (v_ 1) aN))))) sc__law_row.nd)
   (ssC (aaJ 6 (eD (adE ZZ) hr (aC (eIx xL (v_ 0) eI) (aC eB (aC (v_ 1) aN)))) sc__law_row.nd)
   (ssC (aaJ 7 (abR (aC (v_ 2) (aC (v_ 3) (aC (v_ 4) (aC (v_ 5) (aC (v_ 6) aN)))))) sc__law_row.nd)
   (ss1 (aaE (aa5 (aC (aeS (eSx [32]) (acD [] [] (iL (v_ 7)) (fun _ _ _ _ _ _=>fsN) (fun _ _ _ _ _ _=>(eIx (xTc (K:=K)) (v_ 0) eI)))) (aC (acD [] [] (iL (v_ 7)) (fun _ _ _ _ _ _=>fsN) (fun _ _ _ _ _ _=>(eIx (xTc (K:=K)) (v_ 0) eI))) aN))))))))))),?_⟩
 refine⟨_,rfl,a,_,_,_,rfl,rfl,hC,rfl,_,rfl,c0,0,59,bm,rfl,⟨by decide,by decide,by decide⟩,fun t0 w0 m0 H1 s0 h0 f0 l0=>?_⟩
 have sA0:=s0
 refine⟨_,rfl,a,_,_,_,rfl,rfl,(sA0.seq hC),rfl,_,rfl,c1,0,23,bm,rfl,⟨by decide,by decide,by decide⟩,fun t1 w1 m1 H2 s1 h1 f1 l1=>?_⟩
 have sA1:=sA0.trans s1
 refine⟨_,rfl,a,_,_,_,rfl,rfl,(sA1.seq hC),rfl,_,rfl,c2,false,bm,rfl,fun t2 w2 v2 k2 H3 s2 h2 sv2 d2 bo2=>?_⟩
 have sA2:=sA1.trans s2
 refine⟨_,rfl,a,_,_,_,rfl,rfl,(sA2.seq hC),rfl,_,rfl,c3,1,12,bm,rfl,⟨by decide,by decide,by decide⟩,fun t3 w3 m3 H4 s3 h3 f3 l3=>?_⟩
 have sA3:=sA2.trans s3
 refine⟨_,rfl,a,_,_,_,rfl,rfl,(sA3.seq hC),rfl,_,rfl,c4,true,bm,rfl,fun t4 w4 v4 k4 H5 s4 h4 sv4 d4 bo4=>?_⟩
 have sA4:=sA3.trans s4
 refine⟨_,rfl,_,rfl,_,rfl,_,rfl,_,rfl,(zL 5),fun S hS=>?_⟩
 have sS:=aaB hS (.lst [V.ref t0,V.ref t1,V.ref t2,V.ref t3,V.ref t4])
 have g0:=(s1.trans (s2.trans (s3.trans (s4.trans sS)))) _ _ h0
 have g1:=(s2.trans (s3.trans (s4.trans sS))) _ _ h1
 have g2:=(s3.trans (s4.trans sS)) _ _ h2
 have g3:=(s4.trans sS) _ _ h3
 have g4:=sS _ _ h4
 refine⟨rfl,_,rfl,S,rfl,⟨_,SqL.of aaA⟩,ab8 (xs:=[.ref t0,.ref t1,.ref t2,.ref t3,.ref t4]) (fun i z=>z=([w0,w1,w2,w3,w4].take i).map fun x=>V.str (Tx x)) (zL 5) rfl (SqL.of aaA) ?st ?dn⟩
 case st=>
  intro i v z D H7 E' F' hv hR hD s7 hz hE hF
  subst hR
  match i,hv with
  |0,hv=>cases hv;exact⟨_,rfl,t0,_,_,_,rfl,rfl,SqT.of (s7 _ _ g0),rfl,hE _ _ (Same.refl _) rfl⟩
  |1,hv=>cases hv;exact⟨_,rfl,t1,_,_,_,rfl,rfl,SqT.of (s7 _ _ g1),rfl,hE _ _ (Same.refl _) rfl⟩
  |2,hv=>cases hv;exact⟨_,rfl,t2,_,_,_,rfl,rfl,SqT.of (s7 _ _ g2),rfl,hE _ _ (Same.refl _) rfl⟩
  |3,hv=>cases hv;exact⟨_,rfl,t3,_,_,_,rfl,rfl,SqT.of (s7 _ _ g3),rfl,hE _ _ (Same.refl _) rfl⟩
  |4,hv=>cases hv;exact⟨_,rfl,t4,_,_,_,rfl,rfl,SqT.of (s7 _ _ g4),rfl,hE _ _ (Same.refl _) rfl⟩
  |i+5,hv=>cases hv
 case dn=>
  intro D H7 z hR hD s7 hz
  subst hR
  refine⟨32,D,[w0,w1,w2,w3,w4],rfl,rfl,SqL.of hz,?len,_,rfl,S,rfl,⟨_,SqL.of (s7 _ _ aaA)⟩,ab8 (xs:=[.ref t0,.ref t1,.ref t2,.ref t3,.ref t4]) (fun i z=>z=[V.int m0,V.int m1,v2,V.int m3,v4].take i) (zL 5) rfl (SqL.of (s7 _ _ aaA)) ?st2 ?dn2⟩
  case len=>
   have:=f0.len
   have:=f1.len
   have:=f3.len
   have:=d2.2.1.len
   have:=d4.2.1.len
   show (w0++32::(w1++32::(w2++32::(w3++32::w4)))).length<=1000000
   simp only[aP,bF]
   omega
  case st2=>
   intro i v z D2 H8 E' F' hv hR hD2 s8 hz2 hE hF
   subst hR
   match i,hv with
   |0,hv=>cases hv;exact⟨_,rfl,t0,_,_,_,rfl,rfl,SqT.of ((s7.trans s8) _ _ g0),rfl,hE _ _ (Same.refl _) rfl⟩
   |1,hv=>cases hv;exact⟨_,rfl,t1,_,_,_,rfl,rfl,SqT.of ((s7.trans s8) _ _ g1),rfl,hE _ _ (Same.refl _) rfl⟩
   |2,hv=>cases hv;exact⟨_,rfl,t2,_,_,_,rfl,rfl,SqT.of ((s7.trans s8) _ _ g2),rfl,hE _ _ (Same.refl _) rfl⟩
   |3,hv=>cases hv;exact⟨_,rfl,t3,_,_,_,rfl,rfl,SqT.of ((s7.trans s8) _ _ g3),rfl,hE _ _ (Same.refl _) rfl⟩
   |4,hv=>cases hv;exact⟨_,rfl,t4,_,_,_,rfl,rfl,SqT.of ((s7.trans s8) _ _ g4),rfl,hE _ _ (Same.refl _) rfl⟩
   |i+5,hv=>cases hv
  case dn2=>
   intro D2 H8 z hR hD2 s8 hz2
   subst hR
   refine⟨(zL 2),fun t ht=>?_⟩
   have sE:=aaB ht (.tup [V.str (Tx (aaK 32 [w0,w1,w2,w3,w4])),V.ref D2])
   have sT:=s7.trans (s8.trans sE)
   exact q t D2 w0 w1 w2 w3 w4 m0 m1 m3 v2 v4 k2 k4 _ (sA4.trans (sS.trans sT)) aaA (sE _ _ hz2) f0 f1 f3 d2 d4 (sv2.keep ((s3.trans (s4.trans sS)).trans sT)) (sv4.keep (sS.trans sT)) ⟨l0.1,l1.1,l3.1⟩ bo2 bo4 ⟨l0.2,l1.2⟩
theorem anQ:Df P w K mg base "_law_cells" 2 ["_law_script","_law_at"] (anK K):=by
 refine ZZ.dc.dfs anO (fun vs H Q E h=>?_) (fun f cdv A outer s H vs Q E hr h=>?_)
 ·obtain⟨_,_,rfl,_⟩:=h
  rfl
 obtain⟨a,k,rfl,⟨ns,hS⟩,hk,q⟩:=h
 refine⟨_,(ss1 (aaE (acD ["_law_script","_law_at"] [0,1] (iR1 ZZ.ab (aC eI aN)) (fun _ _ _ _ _ _=>fsN) (fun _ _ _ _ _ _=>(eD (abZ ZZ) hr (aC (v_ 1) (aC (eOp aaM (v_ 2) (v_ 0)) aN))))))),?_⟩
 refine⟨_,rfl,by decide,by decide,aa6 (fun i z=>∃cs:List Int,cs.length=i/\z=cs.map V.int) (zL 5) ⟨[],rfl,rfl⟩ ?st ?dn⟩
 case st=>
  rintro i z D H2 E' F' hi ⟨cs,hl,rfl⟩ hD s2 hz hE hF
  have hi':i<5:=hi
  exact⟨_,rfl,_,rfl,_,rfl,_,_,rfl,rfl,a,_,rfl,⟨ns,s2.seq hS⟩,⟨by omega,by omega⟩,fun c=>hE _ _ (Same.refl _) ⟨cs++[c],by rw[aP,hl];rfl,by rw[aT];rfl⟩⟩
 case dn=>
  rintro D H2 z ⟨cs,hl,rfl⟩ hD s2 hz
  match cs,hl with
  |[c0,c1,c2,c3,c4],_=>exact q D c0 c1 c2 c3 c4 H2 s2 hz
theorem ae0:DfM P w K mg base aJ "shut_by" 7 ["self","moment"] (alV K aJ aB aD aF aH aE aA aG aI):=by
 refine ZZ.cu.dfs sc_Row_shut_by (fun vs H Q E h=>?_) (fun f cdv A outer s H vs Q E hr h=>?_)
 ·obtain⟨_,_,_,_,_,_,_,_,_,_,_,rfl,_⟩:=h
  rfl
 obtain⟨p,dx,m0,m1,m3,tm,mo,dv,wv,kd,kw,rfl,hp,hn,hd,hw,q⟩:=h
 refine⟨_,(ssC (aaJ 2 (eD (axI ZZ) hr (aC (v_ 1) aN)) sc_Row_shut_by.nd)
   (ssC (aaJ 3 (eD (auQ ZZ) hr (aC (eIx xT (v_ 2) eI) aN)) sc_Row_shut_by.nd)
   (ssC (sIf (tNo (tVa (eD (ad3 ZZ) hr (aC (eFl (v_ 0)) (aC (eIx xT (v_ 3) eI) aN))))) (ss1 (aaE (eSx [109,111,110,116,104]))) ssN)
   (ssC (sIf (tNo (tVa (eD (ad3 ZZ) hr (aC (eMe ZZ.ac.cl (am5 ZZ) hr (v_ 0) (aC (eD (auA ZZ) hr (aC (eIx xT (v_ 3) eI) (aC (eIx xT (v_ 3) eI) aN))) aN)) (aC (eIx xT (v_ 3) eI) aN))))) (ss1 (aaE (eSx [100,97,121]))) ssN)
   (ssC (sIf (tNo (tVa (eD (ad3 ZZ) hr (aC (eFl (v_ 0)) (aC (eIx xT (v_ 2) eI) aN))))) (ss1 (aaE (eSx [104,111,117,114]))) ssN)
   (ssC (sIf (tNo (tVa (eD (ad3 ZZ) hr (aC (eFl (v_ 0)) (aC (eIx xT (v_ 2) eI) aN))))) (ss1 (aaE (eSx [109,105,110,117,116,101]))) ssN)
   (ss1 (aaE eN)))))))),?_⟩
 refine⟨_,rfl,mo,rfl,fun t H1 s1 h1=>⟨_,rfl,t,_,_,_,rfl,rfl,SqT.of (h1),rfl,_,rfl,fun y m k t2 H2 ok e s2 h2=>?_⟩⟩
 have s12:=s1.trans s2
 have hp2:=s12 _ _ hp
 have q':=q y m k
 refine⟨_,rfl,p,aJ,dx,_,_,rfl,hp2,ZZ.ac.cl,ZZ.af,acL ..,_,rfl,t2,_,_,_,rfl,rfl,SqT.of (h2),rfl,m3,m,rfl,⟨hn.2.2,by have:=ok.1;omega⟩,_,rfl,?_⟩
 cases c1:tb m3 m.toNat with
 |false=>
  have z:=q' H2 ok e s12
  rw[sh1 c1] at z
  exact abH z
 |true=>
  have mk:=an2 (y:=y) ok.1.1 ok.1.2
  have kl:=awP (y:=y) ok.1.1 ok.1.2
  refine aaX ⟨_,rfl,p,dx,_,rfl,hp2,akA ..,_,rfl,t2,_,_,_,rfl,rfl,SqT.of (h2),rfl,_,rfl,t2,_,_,_,rfl,rfl,SqT.of (h2),rfl,y,m,rfl,ok.1,fun H3 s3=>?_⟩
  refine⟨p,dx,m0,m1,m3,tm,kindOf y m,dv,wv,kd,kw,rfl,s3 _ _ hp2,kl,hn.2.2,hd.keep (s12.trans s3),hw.keep (s12.trans s3),fun H4 s4=>?_⟩
  rw[mk.1,mk.2,if_pos c1,aCI ok e]
  have s24:=s3.trans s4
  have sA:=s12.trans s24
  refine⟨_,rfl,t2,_,_,_,rfl,rfl,SqT.of (s24 _ _ h2),rfl,_,k,rfl,⟨arZ (awO ok) (aDH hd) (aDH hw),by have:=ok.2.1;omega⟩,_,rfl,?_⟩
  cases c2:tb (ab1 kd kw (aaF y m) ((mo / 1440-k+1+6)%7)) k.toNat with
  |false=>
   have z:=q' H4 ok e sA
   rw[sh2 c1 c2] at z
   exact abH z
  |true=>
   refine aaX ⟨_,rfl,p,aJ,dx,_,_,rfl,s24 _ _ hp2,ZZ.ac.cl,ZZ.ah,acZ ..,_,rfl,t,_,_,_,rfl,rfl,SqT.of ((s2.trans s24) _ _ h1),rfl,m1,_,rfl,⟨hn.2.1,by omega⟩,_,rfl,?_⟩
   cases c3:tb m1 (mo%1440 / 60).toNat with
   |false=>
    have z:=q' H4 ok e sA
    rw[sh3 c1 c2 c3] at z
    exact abH z
   |true=>
    refine aaX ⟨_,rfl,p,aJ,dx,_,_,rfl,s24 _ _ hp2,ZZ.ac.cl,ZZ.ae,acA ..,_,rfl,t,_,_,_,rfl,rfl,SqT.of ((s2.trans s24) _ _ h1),rfl,m0,_,rfl,⟨hn.1,by omega⟩,_,rfl,?_⟩
    cases c4:tb m0 (mo%1440%60).toNat with
    |false=>
     have z:=q' H4 ok e sA
     rw[sh4 c1 c2 c3 c4] at z
     exact abH z
    |true=>
     have z:=q' H4 ok e sA
     rw[sh5 c1 c2 c3 c4] at z
     exact aaX z
theorem apE:Df P w K mg base "_law_long" 1 ["_law_year"] (ao9 K):=by
 refine ZZ.dw.dfs ao3 (fun vs H Q E h=>?_) (fun f cdv A outer s H vs Q E hr h=>?_)
 ·obtain⟨_,rfl,_⟩:=h
  rfl
 obtain⟨y,rfl,q⟩:=h
 refine⟨_,(ss1 (aaE (axR (ad2 oEq (eOp aa7 (v_ 0) eI) eI) (anD (eOr (ad2 oNe (eOp aa7 (v_ 0) eI) eI) (anD (ad2 oEq (eOp aa7 (v_ 0) eI) eI))))))),?_⟩
 refine⟨_,rfl,_,_,rfl,rfl,(by show (0:Int)<4;decide),rfl,_,rfl,?_⟩
 refine ifI (fun c1=>?_) (fun c1=>?_)
 ·refine⟨_,rfl,_,_,rfl,rfl,(by show (0:Int)<100;decide),rfl,_,rfl,?_⟩
  refine aI3 (fun c2=>?_) (fun c2=>?_)
  ·rw[ahF ⟨c1,.inl c2⟩] at q
   exact q
  ·refine⟨_,rfl,_,_,rfl,rfl,(by show (0:Int)<400;decide),rfl,?_⟩
   by_cases c3:y%400=0
   ·rw[ahF ⟨c1,.inr c3⟩] at q
    show Q (.bl (decide (V.int (y%400)=V.int 0))) H
    rw[dU (int_eq.mpr c3)]
    exact q
   ·rw[ag3 (by omega)] at q
    show Q (.bl (decide (V.int (y%400)=V.int 0))) H
    rw[dY fun e=>c3 (int_eq.mp e)]
    exact q
 ·rw[ag3 (by omega)] at q
  exact q
theorem ac3:Df P w K mg base "_law_before" 1 ["_law_year"] (amD K):=by
 refine ZZ.cv.dfs amK (fun vs H Q E h=>?_) (fun f cdv A outer s H vs Q E hr h=>?_)
 ·obtain⟨_,rfl,_⟩:=h
  rfl
 obtain⟨y,rfl,q⟩:=h
 refine⟨_,(ss1 (aaE (eOp aaM (eOp abP (eOp aaM (eOp adR eI (v_ 0)) (eOp aeQ (eOp aaM (v_ 0) eI) eI)) (eOp aeQ (eOp aaM (v_ 0) eI) eI)) (eOp aeQ (eOp aaM (v_ 0) eI) eI)))),?_⟩
 have e:db y=365*y+(y+3) / 4-(y+99) / 100+(y+399) / 400:=by rw[an8];omega
 rw[e] at q
 exact⟨_,rfl,_,_,rfl,rfl,.inl ⟨by decide,by decide⟩,_,rfl,_,_,rfl,rfl,_,_,rfl,rfl,⟨by decide,by decide⟩,_,_,rfl,rfl,_,rfl,_,_,rfl,rfl,_,_,rfl,rfl,⟨by decide,by decide⟩,_,_,rfl,rfl,_,rfl,_,_,rfl,rfl,_,_,rfl,rfl,⟨by decide,by decide⟩,_,_,rfl,rfl,q⟩
theorem adV:Df P w K mg base "_law_last" 2 ["_law_year","_law_month"] (aqF K):=by
 refine ZZ.dx.dfs aqJ (fun vs H Q E h=>?_) (fun f cdv A outer s H vs Q E hr h=>?_)
 ·obtain⟨_,_,rfl,_⟩:=h
  rfl
 obtain⟨y,m,rfl,⟨h1,h2⟩,q⟩:=h
 refine⟨_,(ssC (sIf (tCm oEq (v_ 1) eI) (ss1 (aaE (eOp aaM eI (eCT avQ ZZ.ax PyProof.Rows.boot_int (aC (eD (apE ZZ) hr (aC (v_ 0) aN)) aN))))) ssN)
   (ss1 (aaE (eIx xL (abR (azD [31,28,31,30,31,30,31,31,30,31,30,31])) (eOp abP (v_ 1) eI))))),?_⟩
 refine⟨_,rfl,rfl,_,rfl,?_⟩
 refine ifI (fun c1=>?_) (fun c1=>?_)
 ·have e:aaF y m=28+ac4 y:=by unfold aaF;rw[if_pos c1]
  rw[e] at q
  refine⟨_,rfl,_,rfl,.inr ⟨_,rfl,_,_,rfl,rfl,?_⟩⟩
  exact q H (Same.refl H)
 ·have e:aaF y m=lasts.getD (m-1).toNat 0:=by unfold aaF;rw[if_neg c1]
  rw[e] at q
  refine⟨(zL 12),fun p hp=>?_⟩
  refine⟨_,rfl,_,_,rfl,rfl,p,lasts.map V.int,_,_,rfl,rfl,SqL.of aaA,alZ h1 h2,?_⟩
  exact q _ (aaB hp _)
theorem apQ:Df P w K mg base "_law_date" 3 ["_law_day"] (apI K):=by
 refine ZZ.dy.dfs sc__law_date (fun vs H Q E h=>?_) (fun f cdv A outer s H vs Q E hr h=>?_)
 ·obtain⟨_,rfl,_⟩:=h
  rfl
 obtain⟨d,rfl,q⟩:=h
 refine⟨_,(ssC (ag0 (eCB aGF ZZ.bs PyProof.Rows.boot_divmod (aC (v_ 0) (aC eI aN))) (gTu (gsC (gN 1 sc__law_date.nd) (gsC (gN 2 sc__law_date.nd) gsN))))
   (ssC (aaJ 3 (eOp aeQ (v_ 2) eI) sc__law_date.nd)
   (ssC (sWh (tCm oLe (eD (ac3 ZZ) hr (aC (eOp aaM (v_ 3) eI) aN)) (v_ 2)) (ss1 (aaJ 3 (eOp aaM (v_ 3) eI) sc__law_date.nd)) PassesOwn.never)
   (ssC (aaJ 2 (eOp abP (v_ 2) (eD (ac3 ZZ) hr (aC (v_ 3) aN))) sc__law_date.nd)
   (ssC (aaJ 4 eI sc__law_date.nd)
   (ssC (sWh (tCm oGe (v_ 2) (eD (adV ZZ) hr (aC (v_ 3) (aC (v_ 4) aN)))) (ssC (aaJ 2 (eOp abP (v_ 2) (eD (adV ZZ) hr (aC (v_ 3) (aC (v_ 4) aN)))) sc__law_date.nd)
   (ss1 (aaJ 4 (eOp aaM (v_ 4) eI) sc__law_date.nd))) PassesOwn.never)
   (ss1 (aaE (aa5 (aC (eOp aaM (v_ 3) (eOp adR eI (v_ 1))) (aC (v_ 4) (aC (eOp aaM (v_ 2) eI) aN)))))))))))),?_⟩
 refine⟨_,rfl,_,146097,rfl,⟨by decide,by decide⟩,fun tq hq=>⟨tq,_,rfl,SqT.of aaA,rfl,_,_,rfl,_,_,rfl,rfl,?_⟩⟩
 have s0:=aaB hq (.tup [V.int (d / 146097),V.int (d%146097)])
 have x0:0<=d%146097/\d%146097+146097*(d / 146097)=d:=by omega
 refine⟨_,rfl,_,_,rfl,rfl,⟨by decide,by decide⟩,?_⟩
 refine acU (fun σ H'=>H'=(upd H tq (.tup [V.int (d / 146097),V.int (d%146097)]))/\∃y:Int,σ=[some (.int d),some (.int (d / 146097)),some (.int (d%146097)),some (.int y),none]/\db y<=d%146097) (fun σ _=>match σ with | [_,_,_,some (.int y),_]=>(d%146097-db y).toNat | _=>0) ?_ ?_
 ·refine⟨rfl,_,rfl,?_⟩
  have h1:=az0 (q:=0) (z:=d%146097 / 366) (by omega)
  rw[Int.zero_mul,Int.zero_add] at h1
  omega
 ·rintro σ H' ⟨rfl,y,rfl,hy⟩
  refine⟨_,rfl,_,_,rfl,rfl,_,rfl,_,rfl,_,_,rfl,rfl,_,rfl,?_⟩
  refine ifD (fun c=>?_) (fun c=>?_)
  ·refine⟨_,fun _ _ h=>h,?_⟩
   refine⟨_,rfl,_,_,rfl,rfl,?_⟩
   have h1:=ag8 y
   have h2:=amE y
   exact⟨_,(by show (d%146097-db (y+1)).toNat<(d%146097-db y).toNat;omega),rfl,rfl,_,rfl,c⟩
  ·refine⟨_,rfl,_,rfl,_,rfl,_,_,rfl,rfl,?_⟩
   refine acU (fun σ H2=>Same (upd H tq (.tup [V.int (d / 146097),V.int (d%146097)])) H2/\∃m r:Int,σ=[some (.int d),some (.int (d / 146097)),some (.int r),some (.int y),some (.int m)]/\(1<=m/\m<=12)/\0<=r/\db y+ahead y m+r=d%146097) (fun σ _=>match σ with | [_,_,_,_,some (.int m)]=>(13-m).toNat | _=>0) ?_ ?_
   ·have a4:ahead y 1=0:=rfl
    exact⟨Same.refl _,1,_,rfl,⟨by decide,by decide⟩,by omega,by omega⟩
   ·rintro σ H2 ⟨s2,m,r,rfl,hm,hr0,he⟩
    refine⟨_,rfl,_,rfl,_,rfl,_,_,rfl,hm,fun H3 s3=>⟨_,_,rfl,rfl,_,rfl,?_⟩⟩
    have a1:=agV (y:=y) hm.1
    refine ifD (fun c2=>?_) (fun c2=>?_)
    ·have a2:=am0 y
     have a3:=ag8 y
     have hm12:m<12:=by
      rcases Int.lt_or_le m 12 with z | z
      ·exact z
      ·have e12:m=12:=by omega
       subst e12
       have a5:ahead y (12+1)=ahead y 13:=rfl
       omega
     refine⟨_,fun _ _ h=>h,?_⟩
     refine⟨_,rfl,_,rfl,_,rfl,_,_,rfl,hm,fun H4 s4=>⟨_,_,rfl,rfl,?_⟩⟩
     refine⟨_,rfl,_,_,rfl,rfl,?_⟩
     exact⟨_,(by show (13-(m+1)).toNat<(13-m).toNat;omega),rfl,s2.trans (s3.trans s4),m+1,r-aaF y m,rfl,⟨by omega,by omega⟩,by omega,by omega⟩
    ·refine⟨_,rfl,_,rfl,_,_,rfl,rfl,.inl ⟨by decide,by decide⟩,_,_,rfl,rfl,_,rfl,_,rfl,_,_,rfl,rfl,(zL 3),fun p hp=>?_⟩
     obtain⟨o1,o2⟩:=aCN (r:=d / 146097) (d:=d) (x:=d%146097) (show OkD y m (r+1) from ⟨hm,by omega,by omega⟩) (by unfold adB;omega) x0.2
     exact q _ m (r+1) p _ o1 o2 (s0.trans (s2.trans (s3.trans (aaB hp _)))) aaA
theorem ahM:Df P w K mg base "_law_shut" 5 ["_law_row_here","_law_moment_here"] (aqA K):=by
 refine ZZ.dz.dfs sc__law_shut (fun vs H Q E h=>?_) (fun f cdv A outer s H vs Q E hr h=>?_)
 ·obtain⟨_,_,_,_,_,_,_,_,_,rfl,_⟩:=h
  rfl
 obtain⟨r,mo,m0,m1,m3,v2,v4,kd,kw,rfl,hr_,hv2,hv4,hn,q⟩:=h
 refine⟨_,(ssC (ag0 (eCB aGF ZZ.bs PyProof.Rows.boot_divmod (aC (v_ 1) (aC eI aN))) (gTu (gsC (gN 2 sc__law_shut.nd) (gsC (gN 3 sc__law_shut.nd) gsN))))
   (ssC (ag0 (eD (apQ ZZ) hr (aC (v_ 2) aN)) (gTu (gsC (gN 4 sc__law_shut.nd) (gsC (gN 5 sc__law_shut.nd) (gsC (gN 6 sc__law_shut.nd) gsN)))))
   (ssC (sIf (tCm oEq (eOp akF (eOp alD (eIx xL (v_ 0) eI) (v_ 5)) eI) eI) (ss1 (aaE (eSx [109,111,110,116,104]))) ssN)
   (ssC (aaJ 7 (eOp aa7 (eOp aaM (eOp aaM (eOp abP (v_ 2) (v_ 6)) eI) eI) eI) sc__law_shut.nd)
   (ssC (sIf (tCm oEq (eOp akF (eOp alD (eD (akX ZZ) hr (aC (v_ 0) (aC (v_ 5) (aC (eD (adV ZZ) hr (aC (v_ 4) (aC (v_ 5) aN))) (aC (v_ 7) aN))))) (v_ 6)) eI) eI) (ss1 (aaE (eSx [100,97,121]))) ssN)
   (ssC (sIf (tCm oEq (eOp akF (eOp alD (eIx xL (v_ 0) eI) (eOp aeQ (v_ 3) eI)) eI) eI) (ss1 (aaE (eSx [104,111,117,114]))) ssN)
   (ssC (sIf (tCm oEq (eOp akF (eOp alD (eIx xL (v_ 0) eI) (eOp aa7 (v_ 3) eI)) eI) eI) (ss1 (aaE (eSx [109,105,110,117,116,101]))) ssN)
   (ss1 (aaE eN))))))))),?_⟩
 refine⟨_,rfl,_,1440,rfl,⟨by decide,by decide⟩,fun tq hq=>⟨tq,_,rfl,SqT.of aaA,rfl,_,_,rfl,_,_,rfl,rfl,?_⟩⟩
 have s0:=aaB hq (.tup [V.int (mo / 1440),V.int (mo%1440)])
 refine⟨_,rfl,_,rfl,fun y m k p H1 ok e s1 hp=>⟨p,_,rfl,SqT.of hp,rfl,_,_,rfl,_,_,rfl,_,_,rfl,rfl,?_⟩⟩
 have sA:=s0.trans s1
 have q':=q y m k
 have hm:=ok.1
 have hk1:=ok.2.1
 refine⟨_,rfl,r,_,_,_,rfl,rfl,SqL.of (sA _ _ hr_),rfl,_,rfl,_,_,rfl,rfl,(by show (0:Int)<=m;omega),_,_,rfl,rfl,rfl,_,rfl,ifI (fun c=>?e1) (fun c=>?n1)⟩
 case e1=>
  have z:=q' H1 ok e sA
  rw[sh1 ((agT hn.2.2 _).mp c)] at z
  exact z
 case n1=>
  have c1:=awN hn.2.2 c
  refine⟨_,rfl,_,rfl,_,_,rfl,rfl,_,_,rfl,rfl,_,_,rfl,rfl,_,_,rfl,rfl,(by show (0:Int)<7;decide),?_⟩
  refine⟨_,rfl,_,rfl,_,rfl,_,rfl,y,m,rfl,hm,fun H2 s2=>⟨_,rfl,r,m,aaF y m,_,m0,m1,m3,v2,v4,kd,kw,rfl,(sA.trans s2) _ _ hr_,hv2.keep (sA.trans s2),hv4.keep (sA.trans s2),hn.2.2,hm,awO ok,fun H3 s3=>?_⟩⟩
  rw[if_pos c1]
  have s13:=s2.trans s3
  have sB:=sA.trans s13
  have nn:=arZ (awO (d:=mo / 1440) ok) (aDU hv2) (aDU hv4)
  refine⟨_,rfl,_,_,rfl,rfl,(by show (0:Int)<=k;omega),_,_,rfl,rfl,rfl,_,rfl,ifI (fun c=>?e2) (fun c=>?n2)⟩
  case e2=>
   have z:=q' H3 ok e sB
   rw[sh2 c1 ((agT nn _).mp c)] at z
   exact z
  case n2=>
   have c2:=awN nn c
   refine⟨_,rfl,r,_,_,_,rfl,rfl,SqL.of (sB _ _ hr_),rfl,_,rfl,_,_,rfl,rfl,⟨by decide,by decide⟩,_,_,rfl,rfl,(by show (0:Int)<=mo%1440 / 60;omega),_,_,rfl,rfl,rfl,_,rfl,ifI (fun c=>?e3) (fun c=>?n3)⟩
   case e3=>
    have z:=q' H3 ok e sB
    rw[sh3 c1 c2 ((agT hn.2.1 _).mp c)] at z
    exact z
   case n3=>
    have c3:=awN hn.2.1 c
    refine⟨_,rfl,r,_,_,_,rfl,rfl,SqL.of (sB _ _ hr_),rfl,_,rfl,_,_,rfl,rfl,(by show (0:Int)<60;decide),_,_,rfl,rfl,(by show (0:Int)<=mo%1440%60;omega),_,_,rfl,rfl,rfl,_,rfl,ifI (fun c=>?e4) (fun c=>?n4)⟩
    case e4=>
     have z:=q' H3 ok e sB
     rw[sh4 c1 c2 c3 ((agT hn.1 _).mp c)] at z
     exact z
    case n4=>
     have z:=q' H3 ok e sB
     rw[sh5 c1 c2 c3 (awN hn.1 c)] at z
     exact z
theorem amO:Df P w K mg base "_law_moment" 3 ["_law_cell","_law_mixed"] (amB K):=by
 refine ZZ.cw.dfs sc__law_moment (fun vs H Q E h=>?_) (fun f cdv A outer s H vs Q E hr h=>?_)
 ·obtain⟨_,_,rfl,_⟩:=h
  rfl
 obtain⟨c,bm,rfl,q⟩:=h
 refine⟨_,(ssC (aaJ 2 (eOp abP (eOp aa7 (v_ 0) (eOp aaM (eOp adR eI (eOp axT eI eI)) eI)) (eOp axT eI eI)) sc__law_moment.nd)
   (ssC (sIf (tW (aqU (tNo (tVa (v_ 1))) (ajE (tCm oGe (eCB aC2 ZZ.bh PyProof.Rows.boot_abs (aC (v_ 0) aN)) (eOp axT eI eI))))) (ss1 (aaE (v_ 2))) ssN)
   (ssC (ag0 (eD (ab2 ZZ) hr (aC (v_ 0) (aC (abR (azD [4,801,41,9,365,1440,3])) (aC eB aN)))) (aFG (gsC (gN 3 sc__law_moment.nd) (gsC (gN 4 sc__law_moment.nd) (gsC (gN 5 sc__law_moment.nd) (gsC (gN 6 sc__law_moment.nd) (gsC (gN 7 sc__law_moment.nd) (gsC (gN 8 sc__law_moment.nd) (gsC (gN 9 sc__law_moment.nd) gsN)))))))))
   (ssC (aaJ 10 (eIx xL (abR (aC (eOp abP (v_ 4) eI) (aC (eOp adR eI (eOp abP (v_ 5) eI)) (aC (eOp aaM eI (eOp aa7 (v_ 4) eI)) (aC eI aN))))) (v_ 3)) sc__law_moment.nd)
   (ssC (aaJ 7 (eIx xL (abR (aC (eIx xL (abR (aC (eUn avR eI) (aC eI (aC eI (aC eI (aC eI (aC eI (aC eI (aC eI (aC eI aN)))))))))) (v_ 6)) (aC (v_ 7) aN))) (eCT avQ ZZ.ax PyProof.Rows.boot_int (aC (ad2 oEq (v_ 3) eI) aN))) sc__law_moment.nd)
   (ssC (aaJ 11 (eOp aaM (eOp adR eI (eOp aaM (eD (ac3 ZZ) hr (aC (v_ 10) aN)) (v_ 7))) (eIx xL (abR (aC (v_ 8) (aC eI (aC eI aN)))) (v_ 9))) sc__law_moment.nd)
   (ss1 (aaE (eIx xL (abR (aC (v_ 11) (aC (v_ 2) aN))) (eCT avQ ZZ.ax PyProof.Rows.boot_int (aC (ad2 oEq (v_ 3) eI) aN))))))))))),?_⟩
 have e7:∀z∈([4,801,41,9,365,1440,3]:List Int),0<z/\z<1073741824:=by decide
 refine⟨_,rfl,_,_,rfl,rfl,⟨by decide,by decide,by decide⟩,_,_,rfl,rfl,.inl ⟨by decide,by decide⟩,_,_,rfl,rfl,_,_,rfl,rfl,(by rw[aJJ];show (0:Int)<_;decide),_,_,rfl,rfl,⟨by decide,by decide,by decide⟩,_,_,rfl,rfl,?_⟩
 obtain⟨far,ef⟩:∃far,far=c%(2*10^(58:Int).toNat+1)-10^(58:Int).toNat:=⟨_,rfl⟩
 show acO 2 (V.int (c%(2*10^(58:Int).toNat+1)-10^(58:Int).toNat)) _ _ _
 rw[←ef]
 refine⟨_,rfl,_,rfl,?_⟩
 cases bm with
 |true=>
  refine aaX (aaX ?_)
  refine⟨_,rfl,(zL 7),fun ls hls=>⟨c,ls,true,[4,801,41,9,365,1440,3],rfl,SqL.of aaA,e7,(by decide),fun ds p H1 s1 hp hd=>?_⟩⟩
  obtain⟨d0,d1,d2,d3,d4,d5,d6,rfl,k0,k3,k6⟩:∃d0 d1 d2 d3 d4 d5 d6:Int,ds=[d0,d1,d2,d3,d4,d5,d6]/\(0<=d0/\d0<4)/\(0<=d3/\d3<9)/\0<=d6/\d6<3:=by cases hd with | cons g0 r=>cases r with | cons g1 r=>cases r with | cons g2 r=>cases r with | cons g3 r=>cases r with | cons g4 r=>cases r with | cons g5 r=>cases r with | cons g6 r=>cases r;exact⟨_,_,_,_,_,_,_,rfl,g0,g3,g6⟩
  refine⟨p,_,rfl,SqL.of hp,rfl,_,_,rfl,_,_,rfl,_,_,rfl,_,_,rfl,_,_,rfl,_,_,rfl,_,_,rfl,rfl,?_⟩
  obtain⟨yy,hyy⟩:=afU (zs:=[d1-200,100*(d2-10),1990+d1%60,0]) (i:=d0) k0.1 k0.2
  obtain⟨ee,hee⟩:=afU (zs:=[-1,0,30,31,58,59,60,364,365]) (i:=d3) k3.1 k3.2
  obtain⟨dd,hdd⟩:=aw1 ee d4 (decide (V.int d0=V.int 2))
  obtain⟨tt,htt⟩:=afU (zs:=[d5,0,1439]) (i:=d6) k6.1 k6.2
  obtain⟨ff,hff⟩:=aw1 (1440*(db yy+dd)+tt) far (decide (V.int d0=V.int 3))
  refine⟨_,rfl,_,_,rfl,rfl,_,rfl,_,_,rfl,rfl,_,_,rfl,rfl,.inl ⟨by decide,by decide⟩,_,rfl,_,_,rfl,rfl,(by show (0:Int)<60;decide),_,_,rfl,rfl,(zL 4),fun l1 h1=>⟨_,rfl,l1,_,_,_,rfl,rfl,SqL.of aaA,hyy,?_⟩⟩
  refine⟨_,rfl,(zL 9),fun l2 h2=>⟨_,rfl,l2,_,_,_,rfl,rfl,SqL.of aaA,hee,_,rfl,(zL 2),fun l3 h3=>⟨_,rfl,rfl,.inr ⟨_,rfl,l3,_,_,_,rfl,rfl,SqL.of aaA,hdd,?_⟩⟩⟩⟩
  refine⟨_,rfl,_,rfl,_,rfl,_,_,rfl,rfl,_,_,rfl,rfl,.inl ⟨by decide,by decide⟩,_,rfl,(zL 3),fun l4 h4=>⟨_,rfl,l4,_,_,_,rfl,rfl,SqL.of aaA,htt,_,_,rfl,rfl,?_⟩⟩
  refine⟨_,rfl,_,rfl,(zL 2),fun l5 h5=>⟨_,rfl,rfl,.inr ⟨_,rfl,l5,_,_,_,rfl,rfl,SqL.of aaA,hff,q _ _ ?_⟩⟩⟩
  exact ((aaB hls _).trans s1).trans ((aaB h1 _).trans ((aaB h2 _).trans ((aaB h3 _).trans ((aaB h4 _).trans (aaB h5 _)))))
 |false=>
  refine abH ⟨_,rfl,_,rfl,_,_,rfl,rfl,⟨by decide,by decide,by decide⟩,_,_,rfl,rfl,_,rfl,ifD (fun _=>⟨_,rfl,q _ _ (Same.refl _)⟩) (fun _=>?_)⟩
  refine⟨_,rfl,(zL 7),fun ls hls=>⟨c,ls,true,[4,801,41,9,365,1440,3],rfl,SqL.of aaA,e7,(by decide),fun ds p H1 s1 hp hd=>?_⟩⟩
  obtain⟨d0,d1,d2,d3,d4,d5,d6,rfl,k0,k3,k6⟩:∃d0 d1 d2 d3 d4 d5 d6:Int,ds=[d0,d1,d2,d3,d4,d5,d6]/\(0<=d0/\d0<4)/\(0<=d3/\d3<9)/\0<=d6/\d6<3:=by cases hd with | cons g0 r=>cases r with | cons g1 r=>cases r with | cons g2 r=>cases r with | cons g3 r=>cases r with | cons g4 r=>cases r with | cons g5 r=>cases r with | cons g6 r=>cases r;exact⟨_,_,_,_,_,_,_,rfl,g0,g3,g6⟩
  refine⟨p,_,rfl,SqL.of hp,rfl,_,_,rfl,_,_,rfl,_,_,rfl,_,_,rfl,_,_,rfl,_,_,rfl,_,_,rfl,rfl,?_⟩
  obtain⟨yy,hyy⟩:=afU (zs:=[d1-200,100*(d2-10),1990+d1%60,0]) (i:=d0) k0.1 k0.2
  obtain⟨ee,hee⟩:=afU (zs:=[-1,0,30,31,58,59,60,364,365]) (i:=d3) k3.1 k3.2
  obtain⟨dd,hdd⟩:=aw1 ee d4 (decide (V.int d0=V.int 2))
  obtain⟨tt,htt⟩:=afU (zs:=[d5,0,1439]) (i:=d6) k6.1 k6.2
  obtain⟨ff,hff⟩:=aw1 (1440*(db yy+dd)+tt) far (decide (V.int d0=V.int 3))
  refine⟨_,rfl,_,_,rfl,rfl,_,rfl,_,_,rfl,rfl,_,_,rfl,rfl,.inl ⟨by decide,by decide⟩,_,rfl,_,_,rfl,rfl,(by show (0:Int)<60;decide),_,_,rfl,rfl,(zL 4),fun l1 h1=>⟨_,rfl,l1,_,_,_,rfl,rfl,SqL.of aaA,hyy,?_⟩⟩
  refine⟨_,rfl,(zL 9),fun l2 h2=>⟨_,rfl,l2,_,_,_,rfl,rfl,SqL.of aaA,hee,_,rfl,(zL 2),fun l3 h3=>⟨_,rfl,rfl,.inr ⟨_,rfl,l3,_,_,_,rfl,rfl,SqL.of aaA,hdd,?_⟩⟩⟩⟩
  refine⟨_,rfl,_,rfl,_,rfl,_,_,rfl,rfl,_,_,rfl,rfl,.inl ⟨by decide,by decide⟩,_,rfl,(zL 3),fun l4 h4=>⟨_,rfl,l4,_,_,_,rfl,rfl,SqL.of aaA,htt,_,_,rfl,rfl,?_⟩⟩
  refine⟨_,rfl,_,rfl,(zL 2),fun l5 h5=>⟨_,rfl,rfl,.inr ⟨_,rfl,l5,_,_,_,rfl,rfl,SqL.of aaA,hff,q _ _ ?_⟩⟩⟩
  exact ((aaB hls _).trans s1).trans ((aaB h1 _).trans ((aaB h2 _).trans ((aaB h3 _).trans ((aaB h4 _).trans (aaB h5 _)))))
theorem aqX:Df P w K mg base "starts_of" 2 ["mask"] (aqK K):=by
 refine ZZ.d0.dfs sc_starts_of (fun vs H Q E h=>?_) (fun f cdv A outer s H vs Q E hr h=>?_)
 ·obtain⟨_,rfl,_⟩:=h
  rfl
 obtain⟨m,rfl,hm,q⟩:=h
 refine⟨_,(ssC (aaJ 1 (eOp af4 (v_ 0) eI) sc_starts_of.nd)
   (ss1 (aaE (acD ["mask","nexts"] [0,1] (iR1 ZZ.ab (aC (eBL (v_ 0)) aN)) (fun _ _ _ _ _ _=>(fs1 (tW (aqU (tVa (eD (ad3 ZZ) hr (aC (v_ 1) (aC (v_ 0) aN)))) (ajE (tNo (tVa (eD (ad3 ZZ) hr (aC (v_ 2) (aC (v_ 0) aN)))))))))) (fun _ _ _ _ _ _=>(v_ 0)))))),?_⟩
 have hb:=ak2 hm.1 hm.2
 have h2:(0:Int)<=m*2^(1:Int).toNat:=by
  show (0:Int)<=m*2^1
  omega
 refine⟨_,rfl,_,_,rfl,rfl,⟨by decide,by decide,by omega⟩,?_⟩
 refine⟨_,rfl,rfl,_,rfl,rfl,_,rfl,by omega,by omega,aa6 (fun i z=>z=(flt (pSt m) 0 i).map V.int) (by rw[dQ,bP];omega) ao7 ?_ ?_⟩
 ·intro i z D H2 E' F' hi hR hD s2 hz hE hF
  subst hR
  have e0:(0+(i:Int)).toNat=i:=by omega
  have eN:tb (m*2^(1:Int).toNat) i=(decide (1<=i)&&tb m (i-1)):=azS hm.1 1 i
  have yes:pSt m i=true->(flt (pSt m) 0 i).map V.int++[V.int (0+(i:Int))]=(flt (pSt m) 0 (i+1)).map V.int:=fun c=>by rw[afQ c,aT];rfl
  have no:pSt m i=false->(flt (pSt m) 0 i).map V.int=(flt (pSt m) 0 (i+1)).map V.int:=fun c=>by rw[agU c]
  refine⟨_,rfl,_,rfl,_,_,rfl,⟨hm.1,by omega⟩,_,rfl,?_⟩
  show if tb m (0+(i:Int)).toNat=true then _ else _
  rw[e0]
  by_cases c:tb m i=true
  ·rw[if_pos c]
   refine⟨_,rfl,_,rfl,_,_,rfl,⟨h2,by omega⟩,_,rfl,?_⟩
   show if (!tb (m*2^(1:Int).toNat) (0+(i:Int)).toNat)=true then _ else _
   rw[e0,eN]
   by_cases c2:(decide (1<=i)&&tb m (i-1))=true
   ·rw[c2]
    exact aaX (hF _ (Same.refl _) (no (by unfold pSt;rw[c,c2];rfl)))
   ·have c2':(decide (1<=i)&&tb m (i-1))=false:=by simpa using c2
    rw[c2']
    exact abH ⟨_,rfl,hE _ _ (Same.refl _) (yes (by unfold pSt;rw[c,c2'];rfl))⟩
  ·rw[if_neg c]
   have c':tb m i=false:=by simpa using c
   exact aaX (hF _ (Same.refl _) (no (by unfold pSt;rw[c'];rfl)))
 ·intro D H2 z hR hD s2 hz
  subst hR
  have e:flt (pSt m) 0 (Builtin.Int.intBits m:Nat)=flt (pSt m) 0 64:=(ay2 (fun i hi=>by unfold pSt;rw[abJ (awA hm.1) hi];rfl) hb).symm
  rw[bP,e] at hz
  exact q D H2 hD s2 hz
theorem as4:Df P w K mg base "end_from" 2 ["mask","start"] (asZ K):=by
 refine ZZ.eo.dfs sc_end_from (fun vs H Q E h=>?_) (fun f cdv A outer s H vs Q E hr h=>?_)
 ·obtain⟨_,_,rfl,_⟩:=h
  rfl
 obtain⟨m,s,rfl,hm,q⟩:=h
 refine⟨_,(ssC (aaJ 2 (v_ 1) sc_end_from.nd)
   (ssC (sWh (tVa (eD (ad3 ZZ) hr (aC (v_ 0) (aC (eOp aaM (v_ 2) eI) aN)))) (ss1 (aaJ 2 (eOp aaM (v_ 2) eI) sc_end_from.nd)) PassesOwn.never)
   (ss1 (aaE (v_ 2))))),?_⟩
 refine⟨_,rfl,?_⟩
 refine acU (fun σ H'=>H'=H/\∃e:Nat,σ=[some (.int m),some (.int s),some (.int e)]/\s<=e/\∀j,s<j->j<=e->tb m j=true) (fun σ _=>match σ with | [_,_,some (.int e)]=>(64-e).toNat | _=>0) ⟨rfl,s,rfl,aO _,fun j h1 h2=>absurd h1 (by omega)⟩ ?_
 rintro σ H' ⟨rfl,e,rfl,he,hb⟩
 have e0:((e:Int)+1).toNat=e+1:=by omega
 refine⟨_,rfl,_,rfl,_,_,rfl,rfl,_,_,rfl,⟨hm.1,by omega⟩,_,rfl,?_⟩
 show if tb m ((e:Int)+1).toNat=true then _ else _
 rw[e0]
 by_cases c:tb m (e+1)=true
 ·rw[if_pos c]
  have h64:e+1<64:=by
   rcases cA (e+1) 64 with z | z
   ·exact z
   ·rw[abJ hm.2 z] at c
    exact absurd c aW
  refine⟨_,fun _ _ h=>h,?_⟩
  refine⟨_,rfl,_,_,rfl,rfl,?_⟩
  refine⟨_,(by show (64-((e:Int)+1)).toNat<(64-(e:Int)).toNat;omega),rfl,rfl,e+1,rfl,by omega,fun j h1 h2=>?_⟩
  by_cases q:j=e+1
  ·rw[q];exact c
  ·exact hb j h1 (by omega)
 ·rw[if_neg c]
  exact⟨_,rfl,q e ⟨he,hb,by simpa using c⟩⟩
theorem ap3:Df P w K mg base "ranges_of" 3 ["mask"] (apT K):=by
 refine ZZ.d1.dfs arB (fun vs H Q E h=>?_) (fun f cdv A outer s H vs Q E hr h=>?_)
 ·obtain⟨_,rfl,_⟩:=h
  rfl
 obtain⟨m,rfl,hm,q⟩:=h
 refine⟨_,(ss1 (aaE (acD ["mask"] [0] (iL (eD (aqX ZZ) hr (aC (v_ 0) aN))) (fun _ _ _ _ _ _=>fsN) (fun _ _ _ _ _ _=>(aa5 (aC (v_ 0) (aC (eD (as4 ZZ) hr (aC (v_ 1) (aC (v_ 0) aN))) aN))))))),?_⟩
 refine⟨_,rfl,_,rfl,hm,fun p H1 n1 s1 h1=>⟨p,rfl,⟨_,SqL.of h1⟩,avI (xs:=(flt (pSt m) 0 64).map V.int) (fun i l H2=>∃(ts:List Addr) (ss es:List Nat),l=ts.map V.ref/\PrT H2 ts (ss.zip es)/\Paired (anZ m) ss es/\(ss.map fun x:Nat=>(x:Int))=(flt (pSt m) 0 64).take i) (fun i l H H' k ⟨ts,ss,es,e1,e2,e3,e4⟩=>⟨ts,ss,es,e1,e2.keep k,e3,e4⟩) (by rw[aM,dQ];have:=arI (pSt m) 0 64;omega) ⟨[],[],[],rfl,.nil,.nil,rfl⟩ (SqL.of h1) ?_ ?_⟩⟩
 ·rintro i v l D H2 E' F' hv ⟨ts,ss,es,rfl,e2,e3,e4⟩ hD s2 hl hE hF
  rw[aY] at hv
  cases ez:(flt (pSt m) 0 64)[i]? with
  |none=>rw[ez] at hv;cases hv
  |some z=>
   rw[ez] at hv
   obtain rfl:V.int z=v:=a8 hv
   obtain⟨n,hn,hp,rfl⟩:=flt_mem.mp (bH ez)
   rw[show (0:Int)+(n:Int)=(n:Int) by omega] at ez ⊢
   refine⟨_,rfl,_,rfl,_,rfl,m,n,rfl,hm,fun e he=>⟨(zL 2),fun t ht=>?_⟩⟩
   refine hE _ _ (aaB ht _) ⟨ts++[t],ss++[n],es++[e],(by rw[aT];rfl),?_,e3.snoc he,?_⟩
   ·rw[List.zip_append e3.length]
    exact (PrT.keep e2 (aaB ht _).keep).snoc aaA
   ·rw[aT,e4,bI,ez]
    rfl
 ·rintro D H2 l ⟨ts,ss,es,rfl,e2,e3,e4⟩ hD s2 hl
  rw[aM,bQ] at e4
  have hlen:=e3.length
  have hmem:∀j:Nat,j∈ss↔(j:Int)∈flt (pSt m) 0 64:=fun j=>by
   rw[←e4,a9]
   exact⟨fun h=>⟨j,h,rfl⟩,fun ⟨k,h,e⟩=>by rw[←show k=j by omega];exact h⟩
  have hps:ss.Pairwise (·<·):=by
   have:=ad0 (pSt m) 0 64
   rw[←e4,List.pairwise_map] at this
   exact this.imp fun h=>by omega
  refine q D H2 ts (ss.zip es) (s1.none hD) (s1.trans s2) hl e2 (ap8 ss es 0 (.inl rfl) hps (fun j _=>?_) (fun j _=>aZ j) e3) ?_
  ·rw[hmem,flt_mem]
   refine⟨fun ⟨i,_,h2,h3⟩=>by rw[←show i=j by omega];exact h2,fun h=>⟨j,?_,h,by omega⟩⟩
   rcases cA j 64 with z | z
   ·exact z
   ·unfold pSt at h
    rw[abJ hm.2 z] at h
    exact absurd h aW
  ·rw[←e4,show (fun x:Nat×Nat=>(x.1:Int))=(fun x:Nat=>(x:Int)) ∘ Prod.fst from rfl,←bM,List.map_fst_zip (by omega)]
theorem al1:Df P w K mg base "shown_range" 1 ["first","last"] (al5 K):=by
 refine ZZ.cx.dfs alG (fun vs H Q E h=>?_) (fun f cdv A outer s H vs Q E hr h=>?_)
 ·obtain⟨_,rfl,_⟩:=h
  rfl
 obtain⟨x,rfl,hx,q⟩:=h
 refine⟨_,(ssC (sIf (tCm oEq (v_ 0) (v_ 1)) (ss1 (aaE (eCT aa8 ZZ.aa PyProof.Rows.boot_str (aC (v_ 0) aN)))) ssN)
   (ss1 (aaE (eFm (fmI (v_ 0) (fmL [45] (fmI (v_ 1) fmN))))))),?_⟩
 have sm:∀n:Nat,n<=63->n<10^500:=fun n h=>aX (show n<64 by omega) (by decide +kernel)
 have l1:=(abK x.1 (by omega)).2.2.2
 have l2:=(abK x.2 (by omega)).2.2.2
 refine⟨_,rfl,_,rfl,rfl,_,rfl,ifI (fun c=>⟨_,rfl,x.1,rfl,sm _ hx.1,?_⟩) (fun c=>⟨_,rfl,x.1,rfl,sm _ hx.1,?_,?_,_,rfl,x.2,rfl,sm _ hx.2,?_,?_⟩)⟩
 ·have e:rt x=num x.1:=by unfold rt;rw[if_pos (by omega)]
  rw[e] at q
  exact q
 ·show (num x.1).length<=sizeLine
  rw[dQ];omega
 ·show (num x.1++[45]).length<=sizeLine
  rw[aP,dQ];show _+1<=_;omega
 ·show ((num x.1++[45])++num x.2).length<=sizeLine
  rw[aP,aP,dQ];show _+1+_<=_;omega
 ·have e:rt x=(num x.1++[45])++num x.2:=by unfold rt;rw[if_neg (by omega),c8];rfl
  rw[e] at q
  exact q
theorem acJ:Df P w K mg base "shown_ranges" 4 ["mask"] (akO K):=by
 refine ZZ.ch.dfs akN (fun vs H Q E h=>?_) (fun f cdv A outer s H vs Q E hr h=>?_)
 ·obtain⟨_,_,rfl,_⟩:=h
  rfl
 obtain⟨m,prs,rfl,hm,hR,q⟩:=h
 refine⟨_,(ss1 (aaE (aeS (eSx [44]) (aA7 ["first","last"] [] [] (iL (eD (ap3 ZZ) hr (aC (v_ 0) aN))) (fun _ _ _ _ _ _=>aHW (K:=K) (n:=2) (gsC (gN 0 (show ((["first","last"]:List Str)++([]:List Str)).Nodup by decide +kernel)) (gsC (gN 1 (show ((["first","last"]:List Str)++([]:List Str)).Nodup by decide +kernel)) gsN))) (fun _ _ _ _ _ _=>fsN) (fun _ _ _ _ _ _=>(eD (al1 ZZ) hr (aC (v_ 0) (aC (v_ 1) aN)))))))),?_⟩
 refine⟨rfl,_,rfl,m,rfl,hm,fun p H1 ts prs' n1 s1 h1 hP hR' hst=>⟨p,rfl,⟨_,SqL.of h1⟩,?_⟩⟩
 have eu:=aiH hR' hR
 subst eu
 have hlen:=ahL hm.2 hR (by omega)
 have hpl:=Paired.len hP
 refine at1 (xs:=ts.map V.ref) (fun i l=>l=((prs'.take i).map rt).map fun w=>V.str (Tx w)) (by rw[aM,dQ];omega) rfl (SqL.of h1) ?_ ?_
 ·intro i v l D H2 E' F' hv hR2 hD s2 hz hE hF
  subst hR2
  rw[aY] at hv
  cases et:ts[i]? with
  |none=>rw[et] at hv;cases hv
  |some t=>
   rw[et] at hv
   obtain rfl:V.ref t=v:=a8 hv
   obtain⟨x,ex,hx⟩:=Paired.at hP et
   have b:=ad4 hm.2 hR x (bH ex)
   exact⟨t,_,_,rfl,SqT.of (s2 _ _ hx),⟨_,rfl,_,rfl,x,rfl,⟨by omega,by omega⟩,hE _ _ (Same.refl _) (by rw[bI,ex,aT,aT];rfl)⟩⟩
 ·intro D H2 l hR2 hD s2 hz
  subst hR2
  rw[aM,hpl,bQ] at hz
  have:=ak9 hm.2 hR
  exact⟨44,D,prs'.map rt,rfl,rfl,SqL.of hz,(by show (rtx prs').length<=_;omega),q H2 (s1.trans s2)⟩
theorem arE:DfM P w K mg base aI "told" 1 ["self"] (aqS K aI):=by
 refine ZZ.d2.dfs ap4 (fun vs H Q E h=>?_) (fun f cdv A outer s H vs Q E hr h=>?_)
 ·obtain⟨_,rfl,_⟩:=h
  rfl
 obtain⟨p,rfl,q⟩:=h
 refine⟨_,(ss1 (aaE (eSx []))),?_⟩
 exact q
theorem aj2:DfM P w K mg base aB "told" 5 ["self"] (aj4 K aB):=by
 refine ZZ.ci.dfs aj9 (fun vs H Q E h=>?_) (fun f cdv A outer s H vs Q E hr h=>?_)
 ·obtain⟨_,_,_,rfl,_⟩:=h
  rfl
 obtain⟨p,dx,m,rfl,hp,hm,q⟩:=h
 refine⟨_,(ss1 (aaE (eD (acJ ZZ) hr (aC (eFl (v_ 0)) aN)))),?_⟩
 obtain⟨prs,hr⟩:=acB hm.2 66 0 (by omega)
 rw[adX hm.2 hr] at q
 exact⟨_,rfl,p,aB,dx,_,_,rfl,hp,ZZ.al.cl,ZZ.ay,rfl,m,prs,rfl,hm,hr,q⟩
theorem aqD:DfM P w K mg base aD "told" 1 ["self"] (aq3 K aD):=by
 refine ZZ.d3.dfs arC (fun vs H Q E h=>?_) (fun f cdv A outer s H vs Q E hr h=>?_)
 ·obtain⟨_,_,_,rfl,_⟩:=h
  rfl
 obtain⟨p,dx,b,rfl,hp,hb,q⟩:=h
 refine⟨_,(ssC (sIf (tCm oEq (eFl (v_ 0)) eI) (ss1 (aaE (eSx [76]))) ssN)
   (ss1 (aaE (eOp abD (eSx [76,45]) (eCT aa8 ZZ.aa PyProof.Rows.boot_str (aC (eFl (v_ 0)) aN)))))),?_⟩
 have sm:∀z:Int,0<=z->z<=99->z.toNat<10^500/\[V.int z]=[V.int (z.toNat:Nat)]:=fun z h1 h2=>⟨aX (show z.toNat<100 by omega) (by decide +kernel),by rw[bA h1]⟩
 have nl:∀z:Int,0<=z->z<=99->(num z.toNat).length<=2:=fun z h1 h2=>(abK _ (by omega)).2.2.2
 have z4':∀{n m:Nat},n<=20->m<=20->n+m<=sizeLine:=fun {n m} h1 h2=>by rw[dQ];omega
 have e:abO (.lst b)=if b=0 then [76] else [76,45]++num b.toNat:=rfl
 rw[e] at q
 have qb:=sm b hb.1 (by omega)
 have lb:=nl b hb.1 (by omega)
 refine⟨_,rfl,p,aD,dx,_,_,rfl,hp,ZZ.am.cl,ZZ.aj,rfl,rfl,_,rfl,ifI (fun c=>?_) (fun c=>?_)⟩
 ·rw[if_pos c] at q
  exact q
 ·rw[if_neg c] at q
  exact⟨_,rfl,p,aD,dx,_,_,rfl,hp,ZZ.am.cl,ZZ.aj,rfl,b.toNat,qb.2,qb.1,_,_,rfl,rfl,z4' (by decide) (by omega),q⟩
theorem apH:DfM P w K mg base aF "told" 1 ["self"] (aqL K aF):=by
 refine ZZ.d4.dfs arK (fun vs H Q E h=>?_) (fun f cdv A outer s H vs Q E hr h=>?_)
 ·obtain⟨_,_,_,rfl,_⟩:=h
  rfl
 obtain⟨p,dx,d,rfl,hp,hd,q⟩:=h
 refine⟨_,(ss1 (aaE (eOp abD (eCT aa8 ZZ.aa PyProof.Rows.boot_str (aC (eFl (v_ 0)) aN)) (eSx [87])))),?_⟩
 have sm:∀z:Int,0<=z->z<=99->z.toNat<10^500/\[V.int z]=[V.int (z.toNat:Nat)]:=fun z h1 h2=>⟨aX (show z.toNat<100 by omega) (by decide +kernel),by rw[bA h1]⟩
 have nl:∀z:Int,0<=z->z<=99->(num z.toNat).length<=2:=fun z h1 h2=>(abK _ (by omega)).2.2.2
 have z4':∀{n m:Nat},n<=20->m<=20->n+m<=sizeLine:=fun {n m} h1 h2=>by rw[dQ];omega
 have qd:=sm d (by omega) (by omega)
 have ld:=nl d (by omega) (by omega)
 exact⟨_,rfl,p,aF,dx,_,_,rfl,hp,ZZ.az.cl,ZZ.a1,rfl,d.toNat,qd.2,qd.1,_,_,rfl,rfl,z4' (by omega) (by decide),q⟩
theorem ah7:DfM P w K mg base aH "told" 1 ["self"] (ah2 K aH):=by
 refine ZZ.b2.dfs aiC (fun vs H Q E h=>?_) (fun f cdv A outer s H vs Q E hr h=>?_)
 ·obtain⟨_,rfl,_⟩:=h
  rfl
 obtain⟨p,rfl,q⟩:=h
 refine⟨_,(ss1 (aaE (eSx [76,87]))),?_⟩
 exact q
theorem aiJ:DfM P w K mg base aE "told" 5 ["self"] (aiF K aE):=by
 refine ZZ.b3.dfs aiN (fun vs H Q E h=>?_) (fun f cdv A outer s H vs Q E hr h=>?_)
 ·obtain⟨_,_,_,rfl,_⟩:=h
  rfl
 obtain⟨p,dx,m,rfl,hp,hm,q⟩:=h
 refine⟨_,(ss1 (aaE (eD (acJ ZZ) hr (aC (eFl (v_ 0)) aN)))),?_⟩
 obtain⟨prs,hr⟩:=acB hm.2 66 0 (by omega)
 rw[adX hm.2 hr] at q
 exact⟨_,rfl,p,aE,dx,_,_,rfl,hp,ZZ.ag.cl,ZZ.au,rfl,m,prs,rfl,hm,hr,q⟩
theorem arV:DfM P w K mg base aA "told" 1 ["self"] (asH K aA):=by
 refine ZZ.ep.dfs atT (fun vs H Q E h=>?_) (fun f cdv A outer s H vs Q E hr h=>?_)
 ·obtain⟨_,_,_,_,rfl,_⟩:=h
  rfl
 obtain⟨p,dx,wd,m,rfl,hp,hw,hm,q⟩:=h
 refine⟨_,(ss1 (aaE (eOp abD (eOp abD (eCT aa8 ZZ.aa PyProof.Rows.boot_str (aC (eFl (v_ 0)) aN)) (eSx [35])) (eCT aa8 ZZ.aa PyProof.Rows.boot_str (aC (eFl (v_ 0)) aN))))),?_⟩
 have sm:∀z:Int,0<=z->z<=99->z.toNat<10^500/\[V.int z]=[V.int (z.toNat:Nat)]:=fun z h1 h2=>⟨aX (show z.toNat<100 by omega) (by decide +kernel),by rw[bA h1]⟩
 have nl:∀z:Int,0<=z->z<=99->(num z.toNat).length<=2:=fun z h1 h2=>(abK _ (by omega)).2.2.2
 have z4':∀{n m:Nat},n<=20->m<=20->n+m<=sizeLine:=fun {n m} h1 h2=>by rw[dQ];omega
 have qw:=sm wd (by omega) (by omega)
 have lw:=nl wd (by omega) (by omega)
 have qm:=sm m (by omega) (by omega)
 have lm:=nl m (by omega) (by omega)
 exact⟨_,rfl,p,aA,dx,_,_,rfl,hp,ZZ.av.cl,ZZ.a5,ayV _ _,wd.toNat,qw.2,qw.1,_,_,rfl,rfl,z4' (by omega) (by decide),_,rfl,p,aA,dx,_,_,rfl,hp,ZZ.av.cl,ZZ.a9,ayS _ _,m.toNat,qm.2,qm.1,_,_,rfl,rfl,z4' (by rw[aP];show _+1<=20;omega) (by omega),q⟩
theorem akT:DfM P w K mg base aG "told" 1 ["self"] (akM K aG):=by
 refine ZZ.cj.dfs ajX (fun vs H Q E h=>?_) (fun f cdv A outer s H vs Q E hr h=>?_)
 ·obtain⟨_,_,_,rfl,_⟩:=h
  rfl
 obtain⟨p,dx,d,rfl,hp,hd,q⟩:=h
 refine⟨_,(ss1 (aaE (eOp abD (eCT aa8 ZZ.aa PyProof.Rows.boot_str (aC (eFl (v_ 0)) aN)) (eSx [76])))),?_⟩
 have sm:∀z:Int,0<=z->z<=99->z.toNat<10^500/\[V.int z]=[V.int (z.toNat:Nat)]:=fun z h1 h2=>⟨aX (show z.toNat<100 by omega) (by decide +kernel),by rw[bA h1]⟩
 have nl:∀z:Int,0<=z->z<=99->(num z.toNat).length<=2:=fun z h1 h2=>(abK _ (by omega)).2.2.2
 have z4':∀{n m:Nat},n<=20->m<=20->n+m<=sizeLine:=fun {n m} h1 h2=>by rw[dQ];omega
 have qd:=sm d (by omega) (by omega)
 have ld:=nl d (by omega) (by omega)
 exact⟨_,rfl,p,aG,dx,_,_,rfl,hp,ZZ.an.cl,ZZ.ao,rfl,d.toNat,qd.2,qd.1,_,_,rfl,rfl,z4' (by omega) (by decide),q⟩
theorem afB:Df P w K mg base "shown_marks" 6 ["marks"] (afO K aB aD aF aH aE aA aG aI):=by
 refine ZZ.cy.dfs amY (fun vs H Q E h=>?_) (fun f cdv A outer s H vs Q E hr h=>?_)
 ·obtain⟨_,rfl,_⟩:=h
  rfl
 obtain⟨x,rfl,h⟩:=h
 refine⟨_,(ssC (sIf (tCm afI (v_ 0) eN) (ss1 (aaE (eSx [42]))) ssN)
   (ss1 (aaE (aeS (eSx [44]) (acD [] [] (iL (v_ 0)) (fun _ _ _ _ _ _=>fsN) (fun _ _ _ _ _ _=>(agW (anC ZZ.al.cl (aj2 ZZ) hr (v_ 0)) (agW (anC ZZ.am.cl (aqD ZZ) hr (v_ 0)) (agW (anC ZZ.az.cl (apH ZZ) hr (v_ 0)) (agW (anC ZZ.a8.cl (ah7 ZZ) hr (v_ 0)) (agW (anC ZZ.ag.cl (aiJ ZZ) hr (v_ 0)) (agW (anC ZZ.av.cl (arV ZZ) hr (v_ 0)) (agW (anC ZZ.an.cl (akT ZZ) hr (v_ 0)) (anC ZZ.c2.cl (arE ZZ) hr (v_ 0))))))))))))))),?_⟩
 rcases h with ⟨rfl,q⟩ | ⟨b,ps,ks,rfl,hB,fM,oM,hlen,q⟩
 ·refine⟨_,rfl,rfl,_,rfl,?_⟩
  show if decide (V.non=V.non)=true then _ else _
  rw[dU rfl]
  exact abH q
 have lp:ps.length=ks.length:=Paired.length fM
 refine⟨_,rfl,rfl,_,rfl,aaX ⟨rfl,_,rfl,b,rfl,⟨_,hB⟩,ab8 (xs:=ps.map V.ref) (fun i z=>z=((ks.take i).map abO).map fun x=>V.str (Tx x)) (by rw[aM,dQ];omega) rfl hB ?_ ?_⟩⟩
 ·intro i v z D H2 E' F' hv hR hD s2 hz hE hF
  subst hR
  rw[aY] at hv
  cases ez:ps[i]? with
  |none=>rw[ez] at hv;cases hv
  |some p=>
   rw[ez] at hv
   obtain rfl:V.ref p=v:=a8 hv
   obtain⟨k,ek,hk⟩:=Ft.get fM ez
   obtain⟨hok,hbt⟩:=oM k (bH ek)
   have hk2:=hk.keep s2.keep
   have et:(((ks.take (i+1)).map abO).map fun x=>V.str (Tx x))=(((ks.take i).map abO).map fun x=>V.str (Tx x))++[.str (Tx (abO k))]:=by
    rw[bI,ek,aT,aT]
    rfl
   have fin:∀H',Same H2 H'->_:=fun H' s'=>hE (.str (Tx (abO k))) H' s' et.symm
   cases k with
   |num m=>
    obtain⟨dx,hp⟩:=hk2
    exact (.inl ⟨_,rfl,p,dx,_,rfl,hp,rfl,p,dx,m,rfl,hp,⟨hok,al8 hok hbt.2⟩,fun HZ sZ=>fin HZ sZ⟩)
   |lst b=>
    obtain⟨dx,hp⟩:=hk2
    exact (.inr (.inl ⟨_,rfl,p,dx,_,rfl,hp,rfl,p,dx,b,rfl,hp,hok,fin _ (Same.refl _)⟩))
   |nea d=>
    obtain⟨dx,hp⟩:=hk2
    exact (.inr (.inr (.inl ⟨_,rfl,p,dx,_,rfl,hp,rfl,p,dx,d,rfl,hp,hok,fin _ (Same.refl _)⟩)))
   |wrk=>
    obtain⟨dx,hp⟩:=hk2
    exact (.inr (.inr (.inr (.inl ⟨_,rfl,p,dx,_,rfl,hp,rfl,p,rfl,fin _ (Same.refl _)⟩))))
   |wkd m=>
    obtain⟨dx,hp⟩:=hk2
    exact (.inr (.inr (.inr (.inr (.inl ⟨_,rfl,p,dx,_,rfl,hp,rfl,p,dx,m,rfl,hp,⟨hok.1,alN hok.1 hok.2⟩,fun HZ sZ=>fin HZ sZ⟩)))))
   |nth w m=>
    obtain⟨dx,hp⟩:=hk2
    exact (.inr (.inr (.inr (.inr (.inr (.inl ⟨_,rfl,p,dx,_,rfl,hp,ax3 _ _,p,dx,w,m,rfl,hp,hok.1,hok.2,fin _ (Same.refl _)⟩))))))
   |one w=>
    obtain⟨dx,hp⟩:=hk2
    exact (.inr (.inr (.inr (.inr (.inr (.inr (.inl ⟨_,rfl,p,dx,_,rfl,hp,rfl,p,dx,w,rfl,hp,hok,fin _ (Same.refl _)⟩)))))))
   |nil=>
    obtain⟨dx,hp⟩:=hk2
    exact (.inr (.inr (.inr (.inr (.inr (.inr (.inr ⟨_,rfl,p,dx,_,rfl,hp,rfl,p,rfl,fin _ (Same.refl _)⟩)))))))
 ·intro D H2 z hR hD s2 hz
  subst hR
  rw[aM,lp,bQ] at hz
  have:=apX (ks.map abO) fun x hx=>by
   obtain⟨k,hk,rfl⟩:=a9.mp hx
   exact ar2 (oM k hk).1 (oM k hk).2
  rw[aM] at this
  exact⟨44,D,ks.map abO,rfl,rfl,SqL.of hz,(by omega),q H2 s2⟩
theorem aeN:Df P w K mg base "_law_ranges" 1 ["_law_mask_here"] (alU K):=by
 refine ZZ.cz.dfs sc__law_ranges (fun vs H Q E h=>?_) (fun f cdv A outer s H vs Q E hr h=>?_)
 ·obtain⟨_,rfl,_⟩:=h
  rfl
 obtain⟨m,rfl,hm,q⟩:=h
 refine⟨_,(ssC (azV 1 ["_law_mask_here"] [0] (iR1 ZZ.ab (aC eI aN)) (fun _ _ _ _ _ _=>(fs1 (tCm oEq (eOp akF (eOp alD (v_ 1) (v_ 0)) eI) eI))) (fun _ _ _ _ _ _=>(v_ 0)) sc__law_ranges.nd)
   (ssC (aaJ 2 (abR aN) sc__law_ranges.nd)
   (ssC (aeK (iL (v_ 1)) (gN 3 sc__law_ranges.nd) (ss1 (sIf (tCm aDZ (eOp abP (v_ 3) eI) (v_ 1)) (ssC (aaJ 4 (v_ 3) sc__law_ranges.nd)
   (ssC (sWh (tCm oIn (eOp aaM (v_ 4) eI) (v_ 1)) (ss1 (aaJ 4 (eOp aaM (v_ 4) eI) sc__law_ranges.nd)) PassesOwn.never)
   (ss1 (akD (akW (v_ 2) (eIx xL (abR (aC (eOp abD (eOp abD (eCT aa8 ZZ.aa PyProof.Rows.boot_str (aC (v_ 3) aN)) (eSx [45])) (eCT aa8 ZZ.aa PyProof.Rows.boot_str (aC (v_ 4) aN))) (aC (eCT aa8 ZZ.aa PyProof.Rows.boot_str (aC (v_ 3) aN)) aN))) (eCT avQ ZZ.ax PyProof.Rows.boot_int (aC (ad2 oEq (v_ 3) (v_ 4)) aN)))))))) ssN)) PassesOwn.never)
   (ss1 (aaE (aeS (eSx [44]) (v_ 2))))))),?_⟩
 have sm:∀n:Nat,n<=63->n<10^500:=fun n h=>aX (show n<64 by omega) (by decide +kernel)
 have nl:∀n:Nat,n<=63->(num n).length<=2:=fun n h=>(abK _ (by omega)).2.2.2
 have z4':∀{n m:Nat},n<=20->m<=20->n+m<=sizeLine:=fun {n m} h1 h2=>by rw[dQ];omega
 refine⟨_,rfl,by decide,by decide,aa6 (fun i z=>z=(flt (tb m) 0 i).map V.int) (by decide) ao7 ?_ ?_⟩
 ·intro i z D H2 E' F' hi hR hD s2 hz hE hF
  subst hR
  have e0:(0+(i:Int)).toNat=i:=by omega
  refine⟨_,rfl,_,rfl,_,_,rfl,rfl,(by show (0:Int)<=0+(i:Int);omega),_,_,rfl,rfl,rfl,_,rfl,?_⟩
  refine ifI (fun c=>⟨_,rfl,hE _ _ (Same.refl _) ?_⟩) (fun c=>hF _ (Same.refl _) ?_)
  ·rw[e0] at c
   rw[afQ ((acT hm.1 i).mp c),aT]
   rfl
  ·rw[e0] at c
   have:tb m i=false:=by
    cases h:tb m i
    ·rfl
    ·exact absurd ((acT hm.1 i).mpr h) c
   rw[agU this]
 intro D H1 z hR hD s1 hz
 subst hR
 have hz:H1 D=some (.lst ((flt (tb m) 0 64).map V.int)):=hz
 refine⟨(zL 0),fun W hW=>?_⟩
 refine⟨_,rfl,D,rfl,⟨_,SqL.of ((aaB hW _) _ _ hz)⟩,abT (K:=K) (a:=D) (xs:=(flt (tb m) 0 64).map V.int) (fun i σ H3=>∃(v3 v4:Option V) (ss es:List Nat),σ=[some (.int m),some (.ref D),some (.ref W),v3,v4]/\Same H1 H3/\H3 W=some (.lst (((ss.zip es).map rt).map fun x=>V.str (Tx x)))/\Paired (anZ m) ss es/\(ss.map fun x:Nat=>(x:Int))=((flt (tb m) 0 64).take i).filter fun z=>pSt m z.toNat) ⟨_,_,[],[],rfl,aaB hW _,aaA,.nil,rfl⟩ (fun i σ H3 _ ⟨_,_,_,_,_,s3,_⟩=>SqL.of (s3 _ _ hz)) ?turn ?done⟩
 case done=>
  rintro σ H3 ⟨v3,v4,ss,es,rfl,s3,hw,hP,hss⟩
  rw[aM,bQ,au1] at hss
  have hr:=ayC hm.2 hss hP
  have hl:=ak9 hm.2 hr
  rw[adX hm.2 hr] at q
  exact⟨rfl,_,rfl,44,W,(ss.zip es).map rt,rfl,rfl,SqL.of hw,(by have:(aaK 44 ((ss.zip es).map rt)).length<=200:=hl;omega),q H3 (s1.trans s3)⟩
 case turn=>
  rintro i x σ H3 hx ⟨v3,v4,ss,es,rfl,s3,hw,hP,hss⟩
  have hlen:=arI (tb m) 0 64
  have sl:ss.length<=64:=by
   have:=congrArg List.length hss
   rw[aM] at this
   have a1:=List.length_filter_le (fun z:Int=>pSt m z.toNat) ((flt (tb m) 0 64).take i)
   rw[cS] at a1
   omega
  have el:=hP.length
  rw[aY] at hx
  cases ez:(flt (tb m) 0 64)[i]? with
  |none=>rw[ez] at hx;cases hx
  |some z=>
   rw[ez] at hx
   obtain rfl:V.int z=x:=a8 hx
   obtain⟨n,hn,hp,rfl⟩:=flt_mem.mp (bH ez)
   rw[show (0:Int)+(n:Int)=(n:Int) by omega] at ez ⊢
   have tk:((flt (tb m) 0 64).take (i+1)).filter (fun z=>pSt m z.toNat)=((flt (tb m) 0 64).take i).filter (fun z=>pSt m z.toNat)++(if pSt m n=true then [(n:Int)] else []):=by
    rw[bI,ez,dH]
    congr 1
    show List.filter _ [(n:Int)]=_
    rw[List.filter_cons,bP]
    rfl
   have pe:pSt m n= !(decide (0<=(n:Int)-1)&&tb m ((n:Int)-1).toNat):=by
    unfold pSt
    rw[hp,cY,show ((n:Int)-1).toNat=n-1 by omega]
    congr 2
    exact decide_eq_decide.mpr (by omega)
   refine⟨_,rfl,_,_,rfl,rfl,_,rfl,D,_,rfl,.inl (SqL.of (s3 _ _ hz)),rfl,anV _,_,rfl,?_⟩
   show if (!inV (.int ((n:Int)-1)) ((flt (tb m) 0 64).map V.int))=true then _ else _
   rw[avU hm.2,←pe]
   by_cases c:pSt m n=true
   ·rw[c]
    refine abH ⟨_,rfl,?_⟩
    refine acU (fun σ H'=>H'=H3/\∃e:Nat,σ=[some (.int m),some (.ref D),some (.ref W),some (.int n),some (.int e)]/\n<=e/\∀j,n<j->j<=e->tb m j=true) (fun σ _=>match σ with | [_,_,_,_,some (.int e)]=>(64-e).toNat | _=>0) ⟨rfl,n,rfl,aO _,fun j h1 h2=>absurd h1 (by omega)⟩ ?_
    rintro σ H' ⟨rfl,e,rfl,he,hb⟩
    have e0:((e:Int)+1).toNat=e+1:=by omega
    refine⟨_,rfl,_,_,rfl,rfl,_,rfl,D,_,rfl,.inl (SqL.of (s3 _ _ hz)),rfl,anV _,_,rfl,?_⟩
    show if inV (.int ((e:Int)+1)) ((flt (tb m) 0 64).map V.int)=true then _ else _
    rw[avU hm.2,e0,dU (show (0:Int)<=(e:Int)+1 by omega),cY]
    by_cases c2:tb m (e+1)=true
    ·rw[if_pos c2]
     have h64:e+1<64:=by
      rcases cA (e+1) 64 with y | y
      ·exact y
      ·rw[abJ hm.2 y] at c2
       exact absurd c2 aW
     refine⟨_,fun _ _ h=>h,?_⟩
     refine⟨_,rfl,_,_,rfl,rfl,?_⟩
     refine⟨_,(by show (64-((e:Int)+1)).toNat<(64-(e:Int)).toNat;omega),rfl,rfl,e+1,rfl,by omega,fun j h1 h2=>?_⟩
     by_cases qq:j=e+1
     ·rw[qq];exact c2
     ·exact hb j h1 (by omega)
    ·rw[if_neg c2]
     have he63:e<=63:=by
      by_cases y:e=n
      ·omega
      ·have:=hb e (by omega) (aO _)
       rcases cA e 64 with w | w
       ·omega
       ·rw[abJ hm.2 w] at this;cases this
     have ln:=nl n (by omega)
     have le:=nl e he63
     have hat:atI [V.str (Tx ((num n++[45])++num e)),V.str (Tx (num n))] (if decide (V.int (n:Int)=V.int (e:Int)) then 1 else 0)=some (V.str (Tx (rt (n,e)))):=by
      by_cases y:n=e
      ·subst y
       rw[dU rfl]
       show some (V.str (Tx (num n)))=_
       unfold rt
       rw[if_pos rfl]
      ·rw[dY fun z=>y (by have:=int_eq.mp z;omega)]
       show some (V.str (Tx ((num n++[45])++num e)))=_
       unfold rt
       rw[if_neg y,c8]
       rfl
     refine⟨_,rfl,.inl ⟨rfl,_,SqL.of hw⟩,_,rfl,n,rfl,sm n (by omega),_,_,rfl,rfl,z4' (by omega) (by decide),_,rfl,e,rfl,sm e he63,_,_,rfl,rfl,z4' (by rw[aP];show _+1<=20;omega) (by omega),_,rfl,n,rfl,sm n (by omega),(zL 2),fun l hl=>?_⟩
     have s4:=aaB hl (.lst [V.str (Tx ((num n++[45])++num e)),V.str (Tx (num n))])
     refine⟨_,rfl,_,rfl,rfl,.inr ⟨_,rfl,l,_,_,_,rfl,rfl,SqL.of aaA,hat,W,_,_,rfl,rfl,s4 _ _ hw,(by rw[aM,aM,List.length_zip,dQ];omega),?_⟩⟩
     refine⟨_,_,ss++[n],es++[e],rfl,aa4 hW (s3.trans s4),?_,hP.snoc ⟨he,hb,by simpa using c2⟩,?_⟩
     ·rw[List.zip_append el,aT,aT]
      exact aaA
     ·rw[tk,if_pos c,aT,hss]
      rfl
   ·have c':pSt m n=false:=by simpa using c
    rw[c']
    refine aaX ⟨_,_,ss,es,rfl,s3,hw,hP,?_⟩
    rw[tk,if_neg c,bS]
    exact hss
theorem aiP:Df P w K mg base "_law_gathered" 1 ["_law_specs"] (aiO K):=by
 refine ZZ.b4.dfs sc__law_gathered (fun vs H Q E h=>?_) (fun f cdv A outer s H vs Q E hr h=>?_)
 ·obtain⟨_,_,_,_,rfl,_⟩:=h
  rfl
 obtain⟨sp,us,ks,b,rfl,hS,hlen,hF,q⟩:=h
 refine⟨_,(ssC (aaJ 1 eI sc__law_gathered.nd)
   (ssC (aaJ 2 (abR aN) sc__law_gathered.nd)
   (ssC (aeK (iL (v_ 0)) (gN 3 sc__law_gathered.nd) (ss1 (sIf (tCm oEq (eIx xT (v_ 3) eI) (eSx [112,108,97,105,110])) (ss1 (aaJ 1 (eOp oOr (v_ 1) (eIx xT (v_ 3) eI)) sc__law_gathered.nd)) (ss1 (akD (akW (v_ 2) (v_ 3)))))) PassesOwn.never)
   (ssC (sIf (tCm oEq (v_ 1) eI) (ss1 (aaE (v_ 2))) ssN)
   (ss1 (aaE (eOp anA (abR (aC (aa5 (aC (eSx [112,108,97,105,110]) (aC (v_ 1) (aC eI aN)))) aN)) (v_ 2)))))))),?_⟩
 refine⟨(zL 0),fun og hog=>?_⟩
 have s0:=aaB hog (.lst [])
 refine⟨_,rfl,sp,rfl,⟨_,s0.seq hS⟩,abT (K:=K) (a:=sp) (xs:=us.map V.ref) (fun i σ H2=>∃(u3:Option V) (os:List Addr),σ=[some (.ref sp),some (.int (orM (plK (ks.take i)))),some (.ref og),u3]/\Same H H2/\H2 og=some (.lst (os.map V.ref))/\Ft (TpAt b H2) os (otK (ks.take i))/\os.length<=i) ⟨_,[],rfl,s0,aaA,.nil,aO _⟩ (fun i σ H2 _ ⟨_,_,_,s2,_⟩=>s2.seq hS) ?turn ?done⟩
 case turn=>
  rintro i x σ H2 hx ⟨u3,os,rfl,s2,h2,hf,hl⟩
  rw[aY] at hx
  cases ez:us[i]? with
  |none=>rw[ez] at hx;cases hx
  |some u=>
   rw[ez] at hx
   obtain rfl:V.ref u=x:=a8 hx
   obtain⟨k,ek,hk⟩:=Ft.get hF ez
   have hk:=hk.keep s2.keep
   have hil:i<us.length:=(cF.mp ez).1
   have et:ks.take (i+1)=ks.take i++[k]:=by rw[bI,ek];rfl
   have h1:=hk.1
   rw[et]
   have mark:k.pl=none->Ft (TpAt b (upd H2 og (.lst (os.map V.ref++[.ref u])))) (os++[u]) (otK (ks.take i++[k])):=fun e=>by
    have kp:=ab3 (l':=os.map V.ref++[.ref u]) h2
    rw[(agQ e).2]
    exact Ft.app (hf.keepT kp) (.cons (hk.keep kp) .nil)
   cases k with
   |nil=>cases hk.2.1
   |num m=>
    refine⟨_,rfl,u,_,_,_,rfl,rfl,SqT.of h1,rfl,rfl,_,rfl,agY ⟨_,rfl,_,rfl,u,_,_,_,rfl,rfl,SqT.of h1,rfl,_,_,rfl,rfl,?_⟩⟩
    rw[(ak8 rfl).1,(ak8 rfl).2,adP]
    exact⟨_,os,rfl,s2,h2,hf,by omega⟩
   |lst m=>
    refine⟨_,rfl,u,_,_,_,rfl,rfl,SqT.of h1,rfl,rfl,_,rfl,abI (by decide) ⟨_,rfl,.inl ⟨rfl,_,SqL.of h2⟩,_,rfl,og,_,_,rfl,rfl,h2,(by rw[aM,dQ];omega),?_⟩⟩
    have mk:=mark rfl
    rw[(agQ rfl).1]
    exact⟨_,os++[u],rfl,aa4 hog s2,by rw[aT];exact aaA,mk,by rw[aP,bL];omega⟩
   |nea m=>
    refine⟨_,rfl,u,_,_,_,rfl,rfl,SqT.of h1,rfl,rfl,_,rfl,abI (by decide) ⟨_,rfl,.inl ⟨rfl,_,SqL.of h2⟩,_,rfl,og,_,_,rfl,rfl,h2,(by rw[aM,dQ];omega),?_⟩⟩
    have mk:=mark rfl
    rw[(agQ rfl).1]
    exact⟨_,os++[u],rfl,aa4 hog s2,by rw[aT];exact aaA,mk,by rw[aP,bL];omega⟩
   |wrk  =>
    refine⟨_,rfl,u,_,_,_,rfl,rfl,SqT.of h1,rfl,rfl,_,rfl,abI (by decide) ⟨_,rfl,.inl ⟨rfl,_,SqL.of h2⟩,_,rfl,og,_,_,rfl,rfl,h2,(by rw[aM,dQ];omega),?_⟩⟩
    have mk:=mark rfl
    rw[(agQ rfl).1]
    exact⟨_,os++[u],rfl,aa4 hog s2,by rw[aT];exact aaA,mk,by rw[aP,bL];omega⟩
   |wkd m=>
    refine⟨_,rfl,u,_,_,_,rfl,rfl,SqT.of h1,rfl,rfl,_,rfl,agY ⟨_,rfl,_,rfl,u,_,_,_,rfl,rfl,SqT.of h1,rfl,_,_,rfl,rfl,?_⟩⟩
    rw[(ak8 rfl).1,(ak8 rfl).2,adP]
    exact⟨_,os,rfl,s2,h2,hf,by omega⟩
   |nth m m2=>
    refine⟨_,rfl,u,_,_,_,rfl,rfl,SqT.of h1,rfl,rfl,_,rfl,abI (by decide) ⟨_,rfl,.inl ⟨rfl,_,SqL.of h2⟩,_,rfl,og,_,_,rfl,rfl,h2,(by rw[aM,dQ];omega),?_⟩⟩
    have mk:=mark rfl
    rw[(agQ rfl).1]
    exact⟨_,os++[u],rfl,aa4 hog s2,by rw[aT];exact aaA,mk,by rw[aP,bL];omega⟩
   |one m=>
    refine⟨_,rfl,u,_,_,_,rfl,rfl,SqT.of h1,rfl,rfl,_,rfl,abI (by decide) ⟨_,rfl,.inl ⟨rfl,_,SqL.of h2⟩,_,rfl,og,_,_,rfl,rfl,h2,(by rw[aM,dQ];omega),?_⟩⟩
    have mk:=mark rfl
    rw[(agQ rfl).1]
    exact⟨_,os++[u],rfl,aa4 hog s2,by rw[aT];exact aaA,mk,by rw[aP,bL];omega⟩
 case done=>
  rintro σ H2 ⟨u3,os,rfl,s2,h2,hf,hl⟩
  rw[aM] at hl
  have el:(us.map V.ref).length=ks.length:=by rw[aM];exact Paired.length hF
  rw[el,bQ] at hf ⊢
  have hall:=Ft.okT hF
  have ho:=avZ hall
  have hl':os.length<=1000:=by rw[aM] at el;omega
  unfold abN at q
  generalize orM (plK ks)=M at ho q
  refine⟨_,rfl,rfl,_,rfl,ifI (fun c=>⟨_,rfl,q og os H2 hog s2 h2 ?_⟩) (fun c=>?_)⟩
  ·have e:abM b M=[]:=by unfold abM;rw[if_pos c]
   rw[e]
   exact hf
  refine⟨_,rfl,(zL 3),fun t ht=>⟨(zL 1),fun l1 hl1=>?_⟩⟩
  have n1:=(aaB ht (.tup [.str (Tx [112,108,97,105,110]),.int M,.int 0])).trans (aaB hl1 (.lst [.ref t]))
  refine⟨_,rfl,l1,og,_,_,rfl,rfl,aaA,n1 _ _ h2,(by rw[aM,dQ];show 1+_<=_;omega),fun l2 hl2=>?_⟩
  have n2:=n1.trans (aaB hl2 (.lst ([.ref t]++os.map V.ref)))
  refine q l2 (t::os) _ (none_of (s2.trans n1) hl2) (s2.trans n2) aaA ?_
  have ht2:=(aaB hl2 (.lst ([.ref t]++os.map V.ref))) _ _ ((aaB hl1 (.lst [.ref t])) _ _ (aaA (H:=H2) (a:=t) (o:=.tup [.str (Tx [112,108,97,105,110]),.int M,.int 0])))
  cases b with
  |true=>
   have e:abM true M=[.wkd M]:=by unfold abM;rw[if_neg c];rfl
   rw[e] at ho ⊢
   have:=ho _ (bG.mpr rfl)
   exact .cons ⟨ht2,this⟩ (hf.keepT n2.keep)
  |false=>
   have e:abM false M=[.num M]:=by unfold abM;rw[if_neg c];rfl
   rw[e] at ho ⊢
   have:=ho _ (bG.mpr rfl)
   exact .cons ⟨ht2,this⟩ (hf.keepT n2.keep)
theorem ajW:Df P w K mg base "_law_text_of" 2 ["_law_spec_here"] (akK K):=by
 refine ZZ.ck.dfs sc__law_text_of (fun vs H Q E h=>?_) (fun f cdv A outer s H vs Q E hr h=>?_)
 ·obtain⟨_,_,rfl,_⟩:=h
  rfl
 obtain⟨u,k,rfl,hu,hsp,hok,hbt,q⟩:=h
 refine⟨_,(ssC (ag0 (v_ 0) (gTu (gsC (gN 1 sc__law_text_of.nd) (gsC (gN 2 sc__law_text_of.nd) (gsC (gN 3 sc__law_text_of.nd) gsN)))))
   (ssC (sIf (tCm oEq (v_ 1) (eSx [112,108,97,105,110])) (ss1 (aaE (eD (aeN ZZ) hr (aC (v_ 2) aN)))) ssN)
   (ssC (sIf (tCm oEq (v_ 1) (eSx [108,97,115,116])) (ss1 (aaE (eIx xL (abR (aC (eSx [76]) (aC (eOp abD (eSx [76,45]) (eCT aa8 ZZ.aa PyProof.Rows.boot_str (aC (v_ 2) aN))) aN))) (eCT avQ ZZ.ax PyProof.Rows.boot_int (aC (ad2 oGt (v_ 2) eI) aN))))) ssN)
   (ssC (sIf (tCm oEq (v_ 1) (eSx [110,101,97,114])) (ss1 (aaE (eOp abD (eCT aa8 ZZ.aa PyProof.Rows.boot_str (aC (v_ 2) aN)) (eSx [87])))) ssN)
   (ssC (sIf (tCm oEq (v_ 1) (eSx [119,111,114,107])) (ss1 (aaE (eSx [76,87]))) ssN)
   (ssC (sIf (tCm oEq (v_ 1) (eSx [110,116,104])) (ss1 (aaE (eOp abD (eOp abD (eCT aa8 ZZ.aa PyProof.Rows.boot_str (aC (v_ 2) aN)) (eSx [35])) (eCT aa8 ZZ.aa PyProof.Rows.boot_str (aC (v_ 3) aN))))) ssN)
   (ss1 (aaE (eOp abD (eCT aa8 ZZ.aa PyProof.Rows.boot_str (aC (v_ 2) aN)) (eSx [76])))))))))),?_⟩
 have sm:∀z:Int,0<=z->z<=99->z.toNat<10^500/\[V.int z]=[V.int (z.toNat:Nat)]:=fun z h1 h2=>⟨aX (show z.toNat<100 by omega) (by decide +kernel),by rw[bA h1]⟩
 have nl:∀z:Int,0<=z->z<=99->(num z.toNat).length<=2:=fun z h1 h2=>(abK _ (by omega)).2.2.2
 have z4':∀{n m:Nat},n<=20->m<=20->n+m<=sizeLine:=fun {n m} h1 h2=>by rw[dQ];omega
 cases k with
 |nil=>cases hsp
 |num m=>
  refine⟨_,rfl,u,_,rfl,SqT.of hu,rfl,_,_,rfl,_,_,rfl,_,_,rfl,rfl,?_⟩
  exact⟨_,rfl,rfl,_,rfl,agY ⟨_,rfl,m,rfl,⟨hok,al8 hok hbt.2⟩,q⟩⟩
 |wkd m=>
  refine⟨_,rfl,u,_,rfl,SqT.of hu,rfl,_,_,rfl,_,_,rfl,_,_,rfl,rfl,?_⟩
  exact⟨_,rfl,rfl,_,rfl,agY ⟨_,rfl,m,rfl,⟨hok.1,alN hok.1 hok.2⟩,q⟩⟩
 |lst b=>
  refine⟨_,rfl,u,_,rfl,SqT.of hu,rfl,_,_,rfl,_,_,rfl,_,_,rfl,rfl,?_⟩
  have qb:=sm b hok.1 (by have:=hok.2;omega)
  have lb:=nl b hok.1 (by have:=hok.2;omega)
  have hat:atI [V.str (Tx [76]),V.str (Tx ([76,45]++num b.toNat))] (if decide (0<b) then 1 else 0)=some (V.str (Tx (abO (.lst b)))):=by
   have e:abO (.lst b)=if b=0 then [76] else [76,45]++num b.toNat:=rfl
   by_cases c:b=0
   ·subst c
    rfl
   ·rw[e,if_neg c,dU (show 0<b by have:=hok.1;omega)]
    rfl
  refine⟨_,rfl,rfl,_,rfl,abI (by decide) ⟨_,rfl,rfl,_,rfl,agY ⟨_,rfl,b.toNat,qb.2,qb.1,_,_,rfl,rfl,z4' (by decide) (by omega),(zL 2),fun l hl=>?_⟩⟩⟩
  exact⟨_,rfl,_,_,rfl,rfl,.inr ⟨_,rfl,l,_,_,_,rfl,rfl,SqL.of aaA,hat,q _ (aaB hl _)⟩⟩
 |nea d=>
  refine⟨_,rfl,u,_,rfl,SqT.of hu,rfl,_,_,rfl,_,_,rfl,_,_,rfl,rfl,?_⟩
  have qd:=sm d (by have:=hok.1;omega) (by have:=hok.2;omega)
  have ld:=nl d (by have:=hok.1;omega) (by have:=hok.2;omega)
  exact⟨_,rfl,rfl,_,rfl,abI (by decide) ⟨_,rfl,rfl,_,rfl,abI (by decide) ⟨_,rfl,rfl,_,rfl,agY ⟨_,rfl,d.toNat,qd.2,qd.1,_,_,rfl,rfl,z4' (by omega) (by decide),q _ (Same.refl _)⟩⟩⟩⟩
 |wrk=>
  refine⟨_,rfl,u,_,rfl,SqT.of hu,rfl,_,_,rfl,_,_,rfl,_,_,rfl,rfl,?_⟩
  exact⟨_,rfl,rfl,_,rfl,abI (by decide) ⟨_,rfl,rfl,_,rfl,abI (by decide) ⟨_,rfl,rfl,_,rfl,abI (by decide) ⟨_,rfl,rfl,_,rfl,agY (q _ (Same.refl _))⟩⟩⟩⟩
 |nth w m=>
  refine⟨_,rfl,u,_,rfl,SqT.of hu,rfl,_,_,rfl,_,_,rfl,_,_,rfl,rfl,?_⟩
  have h1:=hok.1.1
  have h2:=hok.1.2
  have h3:=hok.2.1
  have h4:=hok.2.2
  have qw:=sm w (by omega) (by omega)
  have lw:=nl w (by omega) (by omega)
  have qm:=sm m (by omega) (by omega)
  have lm:=nl m (by omega) (by omega)
  exact⟨_,rfl,rfl,_,rfl,abI (by decide) ⟨_,rfl,rfl,_,rfl,abI (by decide) ⟨_,rfl,rfl,_,rfl,abI (by decide) ⟨_,rfl,rfl,_,rfl,abI (by decide) ⟨_,rfl,rfl,_,rfl,agY ⟨_,rfl,w.toNat,qw.2,qw.1,_,_,rfl,rfl,z4' (by omega) (by decide),_,rfl,m.toNat,qm.2,qm.1,_,_,rfl,rfl,z4' (by rw[aP];show _+1<=20;omega) (by omega),q _ (Same.refl _)⟩⟩⟩⟩⟩⟩
 |one w=>
  refine⟨_,rfl,u,_,rfl,SqT.of hu,rfl,_,_,rfl,_,_,rfl,_,_,rfl,rfl,?_⟩
  have h1:=hok.1
  have h2:=hok.2
  have qw:=sm w (by omega) (by omega)
  have lw:=nl w (by omega) (by omega)
  exact⟨_,rfl,rfl,_,rfl,abI (by decide) ⟨_,rfl,rfl,_,rfl,abI (by decide) ⟨_,rfl,rfl,_,rfl,abI (by decide) ⟨_,rfl,rfl,_,rfl,abI (by decide) ⟨_,rfl,rfl,_,rfl,abI (by decide) ⟨_,rfl,w.toNat,qw.2,qw.1,_,_,rfl,rfl,z4' (by omega) (by decide),q _ (Same.refl _)⟩⟩⟩⟩⟩⟩
theorem alA:Df P w K mg base "shown_field" 5 ["mask","low","high"] (alW K):=by
 refine ZZ.c0.dfs alL (fun vs H Q E h=>?_) (fun f cdv A outer s H vs Q E hr h=>?_)
 ·obtain⟨_,_,_,rfl,_⟩:=h
  rfl
 obtain⟨m,lo,hi,rfl,hb,hf,q⟩:=h
 refine⟨_,(ssC (sIf (tCm oEq (v_ 0) (eD (afN ZZ) hr (aC (v_ 1) (aC (v_ 2) (aC eI aN))))) (ss1 (aaE (eSx [42]))) ssN)
   (ss1 (aaE (eD (acJ ZZ) hr (aC (v_ 0) aN))))),?_⟩
 have h64:m<2^64:=hf.lt (n:=64) (by have:=hb.2.2;omega)
 unfold shF at q
 refine⟨_,rfl,_,rfl,_,rfl,lo,hi,1,rfl,⟨hb.1,by omega⟩,⟨by omega,by omega⟩,⟨by decide,by decide⟩,fun H1 s1=>⟨rfl,_,rfl,ifI (fun c=>?_) (fun c=>?_)⟩⟩
 ·rw[if_pos c] at q
  exact q H1 s1
 ·rw[if_neg c] at q
  obtain⟨prs,hr⟩:=acB h64 66 0 (by omega)
  rw[adX h64 hr] at q
  exact⟨_,rfl,m,prs,rfl,⟨by have:=hf.1;omega,h64⟩,hr,fun H2 s2=>q H2 (s1.trans s2)⟩
theorem ac5:Df P w K mg base "shown_plain" 6 ["mask","place"] (amR K):=by
 refine ZZ.c1.dfs sc_shown_plain (fun vs H Q E h=>?_) (fun f cdv A outer s H vs Q E hr h=>?_)
 ·obtain⟨_,_,_,_,rfl,_⟩:=h
  rfl
 obtain⟨m,pl,lo,hi,rfl,hp,hf,q⟩:=h
 refine⟨_,(ssC (aaJ 2 (aHD (eGl (v:=.ref a_BOUNDS) ZZ.bq rfl) (v_ 1)) sc_shown_plain.nd)
   (ss1 (aaE (eD (alA ZZ) hr (aC (v_ 0) (aC (eIx xT (v_ 2) eI) (aC (eIx xT (v_ 2) eI) aN))))))),?_⟩
 rcases hp with ⟨rfl,rfl,rfl⟩ | ⟨rfl,rfl,rfl⟩ | ⟨rfl,rfl,rfl⟩
 ·exact⟨_,rfl,a_BOUNDS,_,_,_,rfl,ZZ.ar,rfl,rfl,_,rfl,_,rfl,a_BOUNDS_0,_,_,_,rfl,rfl,ZZ.a2 _,rfl,_,rfl,a_BOUNDS_0,_,_,_,rfl,rfl,ZZ.a2 _,rfl,m,_,_,rfl,⟨by decide,by decide,by decide⟩,hf,q⟩
 ·exact⟨_,rfl,a_BOUNDS,_,_,_,rfl,ZZ.ar,rfl,rfl,_,rfl,_,rfl,a_BOUNDS_1,_,_,_,rfl,rfl,ZZ.a3 _,rfl,_,rfl,a_BOUNDS_1,_,_,_,rfl,rfl,ZZ.a3 _,rfl,m,_,_,rfl,⟨by decide,by decide,by decide⟩,hf,q⟩
 ·exact⟨_,rfl,a_BOUNDS,_,_,_,rfl,ZZ.ar,rfl,rfl,_,rfl,_,rfl,a_BOUNDS_3,_,_,_,rfl,rfl,ZZ.a4 _,rfl,_,rfl,a_BOUNDS_3,_,_,_,rfl,rfl,ZZ.a4 _,rfl,m,_,_,rfl,⟨by decide,by decide,by decide⟩,hf,q⟩
theorem ag6:DfM P w K mg base aJ "shown" 7 ["self"] (arA K aJ aB aD aF aH aE aA aG aI):=by
 refine ZZ.d5.dfs aqW (fun vs H Q E h=>?_) (fun f cdv A outer s H vs Q E hr h=>?_)
 ·obtain⟨_,_,_,_,_,_,_,_,_,_,_,_,rfl,_⟩:=h
  rfl
 obtain⟨p,dx,m0,m1,m3,tm,dv,wv,kd,kw,w2,w4,rfl,hp,f0,f1,f3,hd,hw,d2,d4,b2,b4,q⟩:=h
 refine⟨_,(ss1 (aaE (aeS (eSx [32]) (abR (aC (eD (ac5 ZZ) hr (aC (eFl (v_ 0)) (aC (eGl (v:=.int 0) ZZ.bp ⟨_,rfl⟩) aN))) (aC (eD (ac5 ZZ) hr (aC (eFl (v_ 0)) (aC (eGl (v:=.int 1) ZZ.c5 ⟨_,rfl⟩) aN))) (aC (eD (afB ZZ) hr (aC (eFl (v_ 0)) aN)) (aC (eD (ac5 ZZ) hr (aC (eFl (v_ 0)) (aC (eGl (v:=.int 3) ZZ.b6 ⟨_,rfl⟩) aN))) (aC (eD (afB ZZ) hr (aC (eFl (v_ 0)) aN)) aN))))))))),?_⟩
 have mk:∀{b:Bool} {v:V} {ko:Option (List Mk)} {w:List Nat} {H':Hp} {R:V->Hp->Prop} {E':_},DV (⟨aB,aD,aF,aH,aE,aA,aG,aI⟩:Cs) H' v (gO b ko)->DT b w ko->BtO ko->(∀H'',Same H' H''->R (.str (Tx (shO b ko))) H'')->afO K aB aD aF aH aE aA aG aI [v] H' R E':=by
  intro b v ko w H' R E' hv hd hb hR
  cases ko with
  |none=>exact⟨v,rfl,.inl ⟨hv,hR _ (Same.refl _)⟩⟩
  |some ks=>
   obtain⟨a,ps,rfl,h1,h2,h3⟩:=hv
   have:=alR b ks
   have:=hb.2.2.1
   exact⟨_,rfl,.inr ⟨a,ps,abN b ks,rfl,SqL.of h1,h2,(fun k hk=>⟨h3 k hk,apY hd.2.2.2.1 hb.2.1 k hk⟩),(by omega),hR⟩⟩
 have ln:=aA1 f0 f1 f3 d2 d4 b2 b4
 refine⟨rfl,_,rfl,p,aJ,dx,_,_,rfl,hp,ZZ.ac.cl,ZZ.ae,acA ..,m0,0,0,59,rfl,.inl ⟨rfl,rfl,rfl⟩,f0,fun H1 s1=>?_⟩
 refine⟨_,rfl,p,aJ,dx,_,_,rfl,s1 _ _ hp,ZZ.ac.cl,ZZ.ah,acZ ..,m1,1,0,23,rfl,.inr (.inl ⟨rfl,rfl,rfl⟩),f1,fun H2 s2=>?_⟩
 have s12:=s1.trans s2
 refine⟨_,rfl,p,aJ,dx,_,_,rfl,s12 _ _ hp,ZZ.ac.cl,ZZ.aw,aeO ..,?_⟩
 delta aiE
 refine mk (hd.keep s12) d2 b2 fun H3 s3=>?_
 have s13:=s12.trans s3
 refine⟨_,rfl,p,aJ,dx,_,_,rfl,s13 _ _ hp,ZZ.ac.cl,ZZ.af,acL ..,m3,3,1,12,rfl,.inr (.inr ⟨rfl,rfl,rfl⟩),f3,fun H4 s4=>?_⟩
 have s14:=s13.trans s4
 refine⟨_,rfl,p,aJ,dx,_,_,rfl,s14 _ _ hp,ZZ.ac.cl,ZZ.ai,adA ..,?_⟩
 refine mk (hw.keep s14) d4 b4 fun H5 s5=>?_
 refine⟨(zL 5),fun l hl=>?_⟩
 exact⟨32,l,shR m0 m1 m3 kd kw,rfl,rfl,SqL.of aaA,ln,q _ ((s14.trans s5).trans (aaB hl _))⟩
theorem ao0:Df P w K mg base "_law_many" 2 ["_law_parts"] (apK K):=by
 refine ZZ.d6.dfs sc__law_many (fun vs H Q E h=>?_) (fun f cdv A outer s H vs Q E hr h=>?_)
 ·obtain⟨_,_,_,_,rfl,_⟩:=h
  rfl
 obtain⟨p,d0,d1,r,rfl,hp,hr_,hz,q⟩:=h
 refine⟨_,(ssC (aaJ 1 (abR (aC (eSx [42,47,50]) aN)) sc__law_many.nd)
   (ssC (aaJ 2 (abR (aC (aa5 (aC (eSx [112,108,97,105,110]) (aC (eD (aaV ZZ) hr (aC (eCT cLR ZZ.as PyProof.Rows.boot_list (aC (eCT aA0 ZZ.ab dW (aC eI (aC eI (aC eI aN)))) aN)) aN)) (aC eI aN)))) aN)) sc__law_many.nd)
   (ssC (aeK (iL (eSl slL (v_ 0) (poS eI) (poS (eOp aaM eI (eIx xL (v_ 0) eI))))) (gN 3 sc__law_many.nd) (ss1 (sIf (tCm oEq (eOp aa7 (v_ 3) eI) eI) (ssC (akD (akW (v_ 1) (eOp abD (eSx [76,45]) (eCT aa8 ZZ.aa PyProof.Rows.boot_str (aC (eOp aaM eI (eOp aeQ (v_ 3) eI)) aN)))))
   (ss1 (akD (akW (v_ 2) (aa5 (aC (eSx [108,97,115,116]) (aC (eOp aaM eI (eOp aeQ (v_ 3) eI)) (aC eI aN)))))))) (ssC (akD (akW (v_ 1) (eOp abD (eCT aa8 ZZ.aa PyProof.Rows.boot_str (aC (eOp aaM eI (eOp aeQ (v_ 3) eI)) aN)) (eSx [87]))))
   (ss1 (akD (akW (v_ 2) (aa5 (aC (eSx [110,101,97,114]) (aC (eOp aaM eI (eOp aeQ (v_ 3) eI)) (aC eI aN)))))))))) PassesOwn.never)
   (ss1 (aaE (aa5 (aC (aeS (eSx [44]) (v_ 1)) (aC (v_ 2) aN)))))))),?_⟩
 have sm:∀z:Int,0<=z->z<=99->z.toNat<10^500/\[V.int z]=[V.int (z.toNat:Nat)]:=fun z h1 h2=>⟨aX (show z.toNat<100 by omega) (by decide +kernel),by rw[bA h1]⟩
 have nl:∀z:Int,0<=z->z<=99->(num z.toNat).length<=2:=fun z h1 h2=>(abK _ (by omega)).2.2.2
 have z4':∀{n m:Nat},n<=20->m<=20->n+m<=sizeLine:=fun {n m} h1 h2=>by rw[dQ];omega
 have n2':=acR (a:=1) (b:=31) (s:=2) (by decide) (by decide) (by decide)
 have r2:=adZ (a:=1) (b:=31) (s:=2) (lo:=1) (hi:=31) (by decide) (by decide) (by decide) (by decide) (aU _) (aU _)
 refine⟨(zL 1),fun T hT=>⟨_,_,_,rfl,⟨by decide,by decide⟩,fun x hx=>⟨x,1,31+1,2,(Builtin.Range.rangeSize 1 (31+1) 2).toNat,rfl,aaA,acH (by decide) (by decide) (by decide) (by decide) (by decide) (by decide),n2'.2,(by have:=n2'.1;omega),fun y hy=>⟨y,ab4 1 31 2,rfl,SqL.of (by rw[abY,bM];exact aaA),(by have:=r2.2.2;omega),(fun n hn=>by have:=r2.1 n hn;omega),fun zs H5 hpw hmem s5=>?_⟩⟩⟩⟩
 have em:ab5 zs=abV 1 31 2:=adF hpw hmem (fun n hn=>by have:=r2.1 n hn;omega)
 rw[em]
 have sT:=aaB hT (.lst [.str (Tx [42,47,50])])
 have hT5:=((aaB hx _).trans ((aaB hy _).trans s5)) _ _ (aaA (H:=H) (a:=T) (o:=.lst [.str (Tx [42,47,50])]))
 have s05:=sT.trans ((aaB hx _).trans ((aaB hy _).trans s5))
 refine⟨(zL 3),fun u hu=>⟨(zL 1),fun S hS=>?_⟩⟩
 have su:=aaB hu (.tup [.str (Tx [112,108,97,105,110]),.int (abV 1 31 2),.int 0])
 have sS:=aaB hS (.lst [.ref u])
 have hTS:T≠S:=fun e=>by rw[←e,su _ _ hT5] at hS;cases hS
 have hSn:H S=none:=none_of (s05.trans su) hS
 have h0:=(s05.trans su).trans sS
 have a1:atI ((d0::d1::r).map V.int) 1=some (.int d1):=afR (j:=1) rfl
 refine⟨_,rfl,_,rfl,_,rfl,p,_,_,_,rfl,rfl,SqL.of (h0 _ _ hp),a1,_,_,rfl,rfl,_,rfl,p,_,rfl,SqL.of (h0 _ _ hp),fun pc hpc=>?_⟩
 obtain⟨zs',ez,lz,mz⟩:=aAY (ds:=d0::d1::r) (by rw[bF,bF,hr_]) (some (3+d1))
 rw[ez]
 have sP:=aaB hpc (.lst (zs'.map V.int))
 have hS6:=sP _ _ (aaA (H:=upd H5 u (.tup [.str (Tx [112,108,97,105,110]),.int (abV 1 31 2),.int 0])) (a:=S) (o:=.lst [.ref u]))
 have s1P:=h0.trans sP
 refine⟨pc,rfl,⟨_,SqL.of aaA⟩,abT (K:=K) (a:=pc) (xs:=zs'.map V.int) (fun i σ J=>∃(v:Option V) (ws:List (List Nat)) (us:List Addr) (ks:List Mk),σ=[some (.ref p),some (.ref T),some (.ref S),v]/\Same H J/\J pc=some (.lst (zs'.map V.int))/\Mny J T S i ws us ks) ⟨_,[[42,47,50]],[u],[.num (abV 1 31 2)],rfl,s1P,aaA,⟨(su.trans (sS.trans sP)) _ _ hT5,hS6,.cons ⟨(sS.trans sP) _ _ aaA,rfl,rfl,(show (0:Int)<=abV 1 31 2 by decide +kernel)⟩ .nil,.cons aBE .nil,(fun w hw=>by rw[bG.mp hw];decide),rfl,rfl,aO _⟩⟩ (fun i σ J _ ⟨_,_,_,_,_,_,hj,_⟩=>SqL.of hj) ?turn ?done⟩
 case done=>
  rintro σ J ⟨v,ws,us,ks,rfl,sJ,hj,M⟩
  have ln:=M.nw
  rw[aM] at ln
  have hlen:=ar9 (c:=44) ws fun w hw=>(M.l w hw).1
  have ko:=M.o
  rw[aM] at ko
  have ko20:(otK ks).length<=20:=by omega
  have hne:ws≠[]:=fun e=>by rw[e] at ln;simp at ln
  have lk:ws.length=ks.length:=Paired.length M.w
  refine⟨rfl,_,rfl,44,T,ws,rfl,rfl,SqL.of M.t,(by omega),_,rfl,(zL 2),fun t ht=>?_⟩
  have sE:=aaB ht (.tup [V.str (Tx (aaK 44 ws)),V.ref S])
  exact q t S _ ks _ (sJ.trans sE) aaA ⟨S,us,rfl,sE _ _ M.s,M.f.keepT sE.keep⟩ (azR M.w hne (by omega) (fun w hw=>(M.l w hw).1) (by omega) (fun w hw=>(M.l w hw).2) M.f.okT rfl) ⟨(fun e=>by rw[e] at lk;exact hne (List.eq_nil_of_length_eq_zero lk)),aC3 M.w,ko20,by omega⟩
 case turn=>
  rintro i v σ J hv ⟨_,ws,us,ks,rfl,sJ,hj,M⟩
  have hil:i<20:=by
   have:=(cF.mp hv).1
   rw[aM] at this
   omega
  obtain⟨z,rfl⟩:∃z:Int,v=.int z:=aw8 hv
  have hz':0<=z/\z<60:=by
   rw[aY] at hv
   cases e:zs'[i]? with
   |none=>rw[e] at hv;cases hv
   |some z'=>
    rw[e] at hv
    have e2:=a8 hv
    cases e2
    exact hz _ (mz _ (bH e))
  have nb:1<=1+z / 2/\1+z / 2<=30:=by omega
  have qn:=sm (1+z / 2) (by omega) (by omega)
  have ln:=nl (1+z / 2) (by omega) (by omega)
  have lw:=M.nw
  have lu:=M.nu
  have wb:(ws.map fun x=>V.str (Tx x)).length+1<=sizeLine:=by rw[aM,dQ];omega
  have ub:(us.map V.ref).length+1<=sizeLine:=by rw[aM,dQ];omega
  have hpT:pc≠T:=fun e=>by rw[e,(su.trans sS) _ _ hT5] at hpc;cases hpc
  have hpS:pc≠S:=fun e=>by rw[e,aaA] at hpc;cases hpc
  have hS1:∀A,(upd J T A) S=some (.lst (us.map V.ref)):=fun A=>by rw[aaH (Ne.symm hTS)];exact M.s
  refine⟨_,rfl,_,_,rfl,rfl,(by show (0:Int)<2;decide),rfl,_,rfl,ifI (fun c=>?_) (fun c=>?_)⟩
  ·refine⟨_,rfl,.inl ⟨rfl,_,SqL.of M.t⟩,_,rfl,_,_,rfl,rfl,⟨by decide,by decide⟩,_,_,rfl,rfl,(1+z / 2).toNat,qn.2,qn.1,_,_,rfl,rfl,z4' (by decide) (by omega),T,_,_,rfl,rfl,M.t,wb,?_⟩
   refine⟨_,rfl,.inl ⟨rfl,_,SqL.of (hS1 _)⟩,_,rfl,_,_,rfl,rfl,⟨by decide,by decide⟩,_,_,rfl,rfl,(zL 3),fun u hu=>⟨S,_,_,rfl,rfl,(aaB hu _) _ _ (hS1 _),ub,?_⟩⟩
   obtain⟨a1,a2,a3⟩:=M.step (k:=.lst (1+z / 2)) hT hSn hTS ⟨hpT,hpS⟩ sJ hj (ayX nb) rfl (by rw[aP];show 2+_<=5;omega) (by intro e;cases e) ⟨rfl,rfl,by omega,by omega⟩ hu
   exact⟨_,_,_,_,rfl,a1,a2,a3⟩
  ·refine⟨_,rfl,.inl ⟨rfl,_,SqL.of M.t⟩,_,rfl,_,_,rfl,rfl,⟨by decide,by decide⟩,_,_,rfl,rfl,(1+z / 2).toNat,qn.2,qn.1,_,_,rfl,rfl,z4' (by omega) (by decide),T,_,_,rfl,rfl,M.t,wb,?_⟩
   refine⟨_,rfl,.inl ⟨rfl,_,SqL.of (hS1 _)⟩,_,rfl,_,_,rfl,rfl,⟨by decide,by decide⟩,_,_,rfl,rfl,(zL 3),fun u hu=>⟨S,_,_,rfl,rfl,(aaB hu _) _ _ (hS1 _),ub,?_⟩⟩
   obtain⟨a1,a2,a3⟩:=M.step (k:=.nea (1+z / 2)) hT hSn hTS ⟨hpT,hpS⟩ sJ hj (ay8 nb) rfl (by rw[aP];show _+1<=5;omega) (arG (c42 (n42 (by omega)) (by decide))) ⟨rfl,rfl,by omega,by omega⟩ hu
   exact⟨_,_,_,_,rfl,a1,a2,a3⟩
theorem af7:Df P w K mg base "_law_marks" 3 ["_law_specs"] (am6 K):=by
 refine ZZ.dd.dfs anG (fun vs H Q E h=>?_) (fun f cdv A outer s H vs Q E hr h=>?_)
 ·obtain⟨_,_,_,_,rfl,_⟩:=h
  rfl
 obtain⟨v,b,ko,w,rfl,hv,hd,hb,q⟩:=h
 refine⟨_,(ssC (sIf (tCm afI (v_ 0) eN) (ss1 (aaE (eSx [42]))) ssN)
   (ss1 (aaE (aeS (eSx [44]) (acD [] [] (iL (eD (aiP ZZ) hr (aC (v_ 0) aN))) (fun _ _ _ _ _ _=>fsN) (fun _ _ _ _ _ _=>(eD (ajW ZZ) hr (aC (v_ 0) aN)))))))),?_⟩
 cases ko with
 |none=>
  obtain rfl:v=.non:=hv
  refine⟨_,rfl,rfl,_,rfl,?_⟩
  show if decide (V.non=V.non)=true then _ else _
  rw[dU rfl]
  exact abH (q _ (Same.refl _))
 |some ks=>
  obtain⟨p,us,rfl,h1,h2⟩:=hv
  have lu:us.length=ks.length:=Paired.length h2
  have:=hb.2.2.2
  refine⟨_,rfl,rfl,_,rfl,aaX ⟨rfl,_,rfl,p,us,ks,b,rfl,SqL.of h1,(by omega),h2,fun g us' H1 n1 s1 hg hF=>⟨g,rfl,⟨_,SqL.of hg⟩,?_⟩⟩⟩
  have lg:=Paired.length hF
  have gl:=alR b ks
  have ol:=hb.2.2.1
  have ga:=aeZ hd.2.2.2.1
  have gb:=apY hd.2.2.2.1 hb.2.1
  refine ab8 (xs:=us'.map V.ref) (fun i z=>z=(((abN b ks).take i).map abO).map fun x=>V.str (Tx x)) (by rw[aM,dQ];omega) rfl (SqL.of hg) ?_ ?_
  ·intro i v z D H3 E' F' hv hR hD s3 hz hE hF'
   subst hR
   rw[aY] at hv
   cases ez:us'[i]? with
   |none=>rw[ez] at hv;cases hv
   |some u=>
    rw[ez] at hv
    obtain rfl:V.ref u=v:=a8 hv
    obtain⟨k,ek,hk⟩:=Ft.get hF ez
    obtain⟨hu,hsp,hwk,hok⟩:=hk
    refine⟨_,rfl,u,k,rfl,s3 _ _ hu,hsp,hok,gb k (bH ek),fun HY sY=>hE _ _ sY ?_⟩
    rw[bI,ek,aT,aT]
    rfl
  ·intro D H3 z hR hD s3 hz
   subst hR
   rw[aM,lg,bQ] at hz
   have:=apX ((abN b ks).map abO) fun x hx=>by
    obtain⟨k,hk,rfl⟩:=a9.mp hx
    exact ar2 (ga k hk).2.2 (gb k hk)
   rw[aM] at this
   exact⟨44,D,(abN b ks).map abO,rfl,rfl,SqL.of hz,(by omega),q H3 (s1.trans s3)⟩
theorem acK:Df P w K mg base "_law_numbers" 2 ["_law_mask_here","_law_low","_law_high"] (akU K):=by
 refine ZZ.cl.dfs akH (fun vs H Q E h=>?_) (fun f cdv A outer s H vs Q E hr h=>?_)
 ·obtain⟨_,_,_,rfl,_⟩:=h
  rfl
 obtain⟨m,lo,hi,rfl,hb,hf,q⟩:=h
 refine⟨_,(ssC (sIf (tCm oEq (v_ 0) (eD (aaV ZZ) hr (aC (eCT cLR ZZ.as PyProof.Rows.boot_list (aC (eCT aD4 ZZ.ab dW (aC (v_ 1) (aC (eOp aaM (v_ 2) eI) aN))) aN)) aN))) (ss1 (aaE (eSx [42]))) ssN)
   (ss1 (aaE (eD (aeN ZZ) hr (aC (v_ 0) aN))))),?_⟩
 have h64:m<2^64:=hf.lt (n:=64) (by have:=hb.2.2;omega)
 have n2':=acR (a:=lo) (b:=hi) (s:=1) hb.1 (by omega) (by decide)
 have r2:=adZ (a:=lo) (b:=hi) (s:=1) (lo:=lo) (hi:=hi) hb.1 (by omega) (by omega) (by decide) (aU _) (aU _)
 unfold shF at q
 refine⟨_,rfl,_,rfl,_,rfl,_,_,rfl,rfl,_,_,rfl,fun r hr=>⟨r,lo,hi+1,1,(Builtin.Range.rangeSize lo (hi+1) 1).toNat,rfl,aaA,acH hb.1 (by omega) (by omega) (by omega) (by decide) (by decide),n2'.2,(by have:=n2'.1;omega),fun u hu=>⟨u,ab4 lo hi 1,rfl,SqL.of (by rw[abY,bM];exact aaA),(by have:=r2.2.2;omega),(fun n hn=>by have:=r2.1 n hn;omega),fun zs H5 hpw hmem s5=>?_⟩⟩⟩
 have s05:=(aaB hr _).trans ((aaB hu _).trans s5)
 have em:ab5 zs=abV lo hi 1:=adF hpw hmem (fun n hn=>by have:=r2.1 n hn;omega)
 rw[em]
 refine⟨rfl,_,rfl,ifI (fun c=>?_) (fun c=>?_)⟩
 ·rw[if_pos c] at q
  exact q H5 s05
 ·rw[if_neg c] at q
  exact⟨_,rfl,m,rfl,⟨by have:=hf.1;omega,h64⟩,fun H2 s2=>q H2 (s05.trans s2)⟩
theorem anE:Df P w K mg base "_law_shown" 4 ["_law_row_here"] (anJ K):=by
 refine ZZ.de.dfs sc__law_shown (fun vs H Q E h=>?_) (fun f cdv A outer s H vs Q E hr h=>?_)
 ·obtain⟨_,_,_,_,_,_,_,_,_,_,rfl,_⟩:=h
  rfl
 obtain⟨r,m0,m1,m3,v2,v4,kd,kw,w2,w4,rfl,hr_,f0,f1,f3,hv2,hv4,d2,d4,b2,b4,q⟩:=h
 refine⟨_,(ssC (aaJ 1 (eD (acK ZZ) hr (aC (eIx xL (v_ 0) eI) (aC eI (aC eI aN)))) sc__law_shown.nd)
   (ssC (aaJ 2 (eD (acK ZZ) hr (aC (eIx xL (v_ 0) eI) (aC eI (aC eI aN)))) sc__law_shown.nd)
   (ss1 (aaE (aeS (eSx [32]) (abR (aC (v_ 1) (aC (v_ 2) (aC (eD (af7 ZZ) hr (aC (eIx xL (v_ 0) eI) aN)) (aC (eD (acK ZZ) hr (aC (eIx xL (v_ 0) eI) (aC eI (aC eI aN)))) (aC (eD (af7 ZZ) hr (aC (eIx xL (v_ 0) eI) aN)) aN))))))))))),?_⟩
 have ln:=aA1 f0 f1 f3 d2 d4 b2 b4
 refine⟨_,rfl,r,_,_,_,rfl,rfl,SqL.of hr_,rfl,m0,0,59,rfl,⟨by decide,by decide,by decide⟩,f0,fun H1 s1=>?_⟩
 refine⟨_,rfl,r,_,_,_,rfl,rfl,SqL.of (s1 _ _ hr_),rfl,m1,0,23,rfl,⟨by decide,by decide,by decide⟩,f1,fun H2 s2=>?_⟩
 have s12:=s1.trans s2
 refine⟨rfl,_,rfl,_,rfl,_,rfl,r,_,_,_,rfl,rfl,SqL.of (s12 _ _ hr_),rfl,v2,false,kd,w2,rfl,hv2.keep s12,d2,b2,fun H3 s3=>?_⟩
 have s13:=s12.trans s3
 refine⟨_,rfl,r,_,_,_,rfl,rfl,SqL.of (s13 _ _ hr_),rfl,m3,1,12,rfl,⟨by decide,by decide,by decide⟩,f3,fun H4 s4=>?_⟩
 have s14:=s13.trans s4
 refine⟨_,rfl,r,_,_,_,rfl,rfl,SqL.of (s14 _ _ hr_),rfl,v4,true,kw,w4,rfl,hv4.keep s14,d4,b4,fun H5 s5=>?_⟩
 refine⟨(zL 5),fun l hl=>?_⟩
 exact⟨32,l,shR m0 m1 m3 kd kw,rfl,rfl,SqL.of aaA,ln,q _ ((s14.trans s5).trans (aaB hl _))⟩
theorem arD:Df P w K mg base "_law_good" 12 ["_law_text","_law_row_here","_law_moments"] (aq2 K aB aD aF aH aE aA aG aI aJ):=by
 refine ZZ.d7.dfs sc__law_good (fun vs H Q E h=>?_) (fun f cdv A outer s H vs Q E hr h=>?_)
 ·obtain⟨_,_,_,_,_,_,_,_,_,_,_,_,_,_,_,rfl,_⟩:=h
  rfl
 obtain⟨r,L,w0,w1,w2,w3,w4,m0,m1,m3,v2,v4,kd,kw,mos,rfl,hr_,hL,f0,f1,f3,hz,hv2,hv4,d2,d4,b2,b4,q⟩:=h
 refine⟨_,(ssC (aaJ 3 (eD (ai2 ZZ) hr (aC (v_ 0) aN)) sc__law_good.nd)
   (ssC (aaJ 4 (anC ZZ.ac.cl (ag6 ZZ) hr (v_ 3)) sc__law_good.nd)
   (ssC (sIf (tW (wOr (tNo (tVa (eCB cIs ZZ.ad PyProof.Rows.boot_isinstance (aC (v_ 4) (aC (eTy ZZ.aa PyProof.Rows.boot_str) aN))))) (alX (tCm oNe (v_ 4) (eD (anE ZZ) hr (aC (v_ 1) aN)))))) (ss1 (aaE eB)) ssN)
   (ssC (aaJ 5 (eD (ai2 ZZ) hr (aC (v_ 4) aN)) sc__law_good.nd)
   (ssC (sIf (tCm oNe (anC ZZ.ac.cl (ag6 ZZ) hr (v_ 5)) (v_ 4)) (ss1 (aaE eB)) ssN)
   (ssC (aeK (iL (v_ 2)) (gN 6 sc__law_good.nd) (ss1 (sIf (tW (wOr (tCm oNe (eMe ZZ.ac.cl (ae0 ZZ) hr (v_ 5) (aC (v_ 6) aN)) (eD (ahM ZZ) hr (aC (v_ 1) (aC (v_ 6) aN)))) (alX (tCm oNe (eMe ZZ.ac.cl (ae0 ZZ) hr (v_ 3) (aC (v_ 6) aN)) (eD (ahM ZZ) hr (aC (v_ 1) (aC (v_ 6) aN))))))) (ss1 (aaE eB)) ssN)) PassesOwn.never)
   (ss1 (aaE eB)))))))),?_⟩
 have F0:=aqY (by decide) f0 hz.1
 have F1:=aqY (by decide) f1 hz.2.1
 have F3:=aqY (by decide) f3 hz.2.2
 have lt:m0<2^60/\m1<2^24:=⟨F0.lt (n:=60) (by decide),F1.lt (n:=24) (by decide)⟩
 have nn:0<=m0/\0<=m1/\0<=m3:=by omega
 have g2:=aw0 d2 b2
 have g4:=aw0 d4 b4
 have c2:=aN8 d2 b2
 have c4:=aN8 d4 b4
 have eR:shR m0 m1 m3 (gO false kd) (gO true kw)=shR m0 m1 m3 kd kw:=by
  unfold shR
  rw[awE d2,awE d4]
 refine⟨_,rfl,w0,w1,w2,w3,w4,m0,m1,m3,kd,kw,rfl,f0,f1,f3,d2,d4,lt,fun x dx dv wv tm H1 _ s1 hx hdv hwv=>?_⟩
 refine⟨_,rfl,x,dx,_,rfl,hx,agJ ..,x,dx,m0,m1,m3,tm,dv,wv,kd,kw,w2,w4,rfl,hx,F0,F1,F3,hdv,hwv,d2,d4,b2,b4,fun H2 s2=>?_⟩
 have s12:=s1.trans s2
 refine⟨_,rfl,_,.str,.str,rfl,(by decide),rfl,_,rfl,aaX ⟨_,rfl,_,rfl,r,m0,m1,m3,v2,v4,kd,kw,w2,w4,rfl,s12 _ _ hr_,F0,F1,F3,hv2.keep s12,hv4.keep s12,d2,d4,b2,b4,fun H3 s3=>⟨rfl,_,rfl,awS ?_⟩⟩⟩
 have s13:=s12.trans s3
 refine⟨_,rfl,shF 0 59 m0,shF 0 23 m1,shO false kd,shF 1 12 m3,shO true kw,m0,m1,m3,gO false kd,gO true kw,rfl,adT (by decide) (by decide) (by decide) F0.1 F0.2,adT (by decide) (by decide) (by decide) F1.1 F1.2,adT (by decide) (by decide) (by decide) F3.1 F3.2,g2,g4,lt,fun z dz dv' wv' tm' H4 _ s4 hz' hdv' hwv'=>?_⟩
 refine⟨_,rfl,z,dz,_,rfl,hz',agJ ..,z,dz,m0,m1,m3,tm',dv',wv',gO false kd,gO true kw,shO false kd,shO true kw,rfl,hz',F0,F1,F3,hdv',hwv',g2,g4,c2,c4,fun H5 s5=>?_⟩
 rw[eR]
 have s25:=s3.trans (s4.trans s5)
 have s15:=s2.trans s25
 have s05:=s1.trans s15
 refine⟨_,rfl,rfl,_,rfl,awS ⟨_,rfl,L,rfl,⟨_,SqL.of (s05 _ _ hL)⟩,abT (K:=K) (a:=L) (xs:=mos.map V.int) (fun i σ H9=>∃v:Option V,σ=[some (.str (Tx (aaK 32 [w0,w1,w2,w3,w4]))),some (.ref r),some (.ref L),some (.ref x),some (.str (Tx (aaK 32 (shR m0 m1 m3 kd kw)))),some (.ref z),v]/\Same H5 H9) ⟨_,rfl,Same.refl _⟩ (fun i σ H9 _ ⟨_,_,s9⟩=>SqL.of ((s05.trans s9) _ _ hL)) ?turn ?done⟩⟩
 case done=>
  rintro σ H9 ⟨v,rfl,s9⟩
  exact q H9 (s05.trans s9)
 case turn=>
  rintro i u σ H9 hu ⟨v,rfl,s9⟩
  obtain⟨mo,rfl⟩:∃mo:Int,u=.int mo:=aw8 hu
  have s59:=s5.trans s9
  have s09:=s05.trans s9
  refine⟨_,rfl,z,dz,_,rfl,s59 _ _ hz',ad5 ..,_,rfl,z,dz,m0,m1,m3,tm',mo,dv',wv',gO false (gO false kd),gO true (gO true kw),rfl,s59 _ _ hz',nn,hdv'.keep s59,hwv'.keep s59,fun y m k J1 ok e t1=>?_⟩
  refine⟨_,rfl,_,rfl,r,mo,m0,m1,m3,v2,v4,kd,kw,rfl,(s09.trans t1) _ _ hr_,hv2.keep (s09.trans t1),hv4.keep (s09.trans t1),nn,fun y' m' k' J2 ok' e' t2=>?_⟩
  rw[(ap7 g2 g4 ok ok' e e').trans (ap7 d2 d4 ok' ok' e' e')]
  have t02:=t1.trans t2
  refine⟨awB ..,_,rfl,?_⟩
  refine awS ⟨_,rfl,x,dx,_,rfl,((s15.trans s9).trans t02) _ _ hx,ad5 ..,_,rfl,x,dx,m0,m1,m3,tm,mo,dv,wv,gO false kd,gO true kw,rfl,((s15.trans s9).trans t02) _ _ hx,nn,hdv.keep ((s15.trans s9).trans t02),hwv.keep ((s15.trans s9).trans t02),fun y2 n2 k2 J3 ok2 e2 t3=>?_⟩
  have t03:=t02.trans t3
  refine⟨_,rfl,_,rfl,r,mo,m0,m1,m3,v2,v4,kd,kw,rfl,(s09.trans t03) _ _ hr_,hv2.keep (s09.trans t03),hv4.keep (s09.trans t03),nn,fun y3 n3 k3 J4 ok3 e3 t4=>?_⟩
  rw[ap7 d2 d4 ok2 ok3 e2 e3]
  exact⟨awB ..,_,rfl,awS ⟨_,rfl,s9.trans (t03.trans t4)⟩⟩
theorem aFC{fL:Addr}{fdL:FuncData}(F:Fun K "law" "law" aoN fL fdL):FnOk P w K mg base CX0 13 fL fdL ["_law_script"] (apU K):=by
 refine F.oks sc_law (fun vs H Q E h=>?_) (fun cdv A outer s H vs Q E hr h=>?_)
 ·obtain⟨_,_,rfl,_⟩:=h
  rfl
 obtain⟨a,ns,rfl,hS,hlen,q⟩:=h
 refine⟨_,(ssC (aaJ 1 (ad2 oEq (eOp aa7 (eD (abZ ZZ) hr (aC (v_ 0) (aC eI aN))) eI) eI) sc_law.nd)
   (ssC (azV 2 ["_law_mixed","_law_script"] [1,0] (iR1 ZZ.ab (aC eI aN)) (fun _ _ _ _ _ _=>fsN) (fun _ _ _ _ _ _=>(eD (amO ZZ) hr (aC (eD (abZ ZZ) hr (aC (v_ 2) (aC (eOp aaM eI (v_ 0)) aN))) (aC (v_ 1) aN)))) sc_law.nd)
   (ssC (aeK (iR1 ZZ.ab (aC eI aN)) (gN 3 sc_law.nd) (ssC (ag0 (eD (as8 ZZ) hr (aC (eD (anQ ZZ) hr (aC (v_ 0) (aC (eOp aaM eI (eOp adR eI (v_ 3))) aN))) (aC (v_ 1) aN))) (gTu (gsC (gN 4 sc_law.nd) (gsC (gN 5 sc_law.nd) gsN))))
   (ssC (aaJ 6 (eD (ab2 ZZ) hr (aC (eD (abZ ZZ) hr (aC (v_ 0) (aC (eOp aaM eI (v_ 3)) aN))) (aC (eOp anA (abR (aC eI (aC eI aN))) (eOp aAV (abR (aC eI aN)) eI)) (aC (v_ 1) aN)))) sc_law.nd)
   (ssC (sIf (tCm oEq (eIx xL (v_ 6) eI) eI) (ssC (ag0 (eD (ao0 ZZ) hr (aC (v_ 6) aN)) (gTu (gsC (gN 7 sc_law.nd) (gsC (gN 8 sc_law.nd) gsN))))
   (ssC (aaJ 9 (avO (v_ 4) (eSx [32])) sc_law.nd)
   (ssC (aaJ 4 (aeS (eSx [32]) (eOp anA (eOp anA (eSl slL (v_ 9) poN (poS eI)) (abR (aC (v_ 7) aN))) (eSl slL (v_ 9) (poS eI) poN))) sc_law.nd)
   (ss1 (aaJ 5 (eOp anA (eOp anA (eSl slL (v_ 5) poN (poS eI)) (abR (aC (v_ 8) aN))) (eSl slL (v_ 5) (poS eI) poN)) sc_law.nd))))) ssN)
   (ss1 (sIf (tNo (tVa (eD (arD ZZ) hr (aC (v_ 4) (aC (v_ 5) (aC (v_ 2) aN)))))) (ss1 (aaE eB)) ssN))))) PassesOwn.never)
   (ss1 (aaE eB))))),?_⟩
 have e22:∀z∈([4,20,60,60,60,60,60,60,60,60,60,60,60,60,60,60,60,60,60,60,60,60]:List Int),0<z/\z<1073741824:=by decide +kernel
 refine⟨_,rfl,a,_,rfl,⟨ns,hS⟩,⟨by decide,by decide⟩,fun c0=>⟨_,_,rfl,rfl,(by show (0:Int)<2;decide),rfl,?_⟩⟩
 obtain⟨bm,ebm⟩:∃bm,bm=decide (V.int (c0%2)=V.int 1):=⟨_,rfl⟩
 show acO 1 (V.bl (decide (V.int (c0%2)=V.int 1))) _ _ _
 rw[←ebm]
 refine⟨_,rfl,by decide,by decide,aa6 (fun i z=>∃cs:List Int,z=cs.map V.int) (zL 2) ⟨[],rfl⟩ ?st ?dn⟩
 case st=>
  rintro i z D H2 E' F' hi ⟨cs,rfl⟩ hD s2 hz hE hF
  have hi':i<2:=hi
  exact⟨_,rfl,_,rfl,_,_,rfl,rfl,a,_,rfl,⟨ns,s2.seq hS⟩,⟨by omega,by omega⟩,fun c=>⟨_,rfl,c,bm,rfl,fun mo H3 s3=>hE _ _ s3 ⟨cs++[mo],by rw[aT];rfl⟩⟩⟩
 case dn=>
  rintro D H2 z ⟨mos,rfl⟩ hD s2 hz
  have hz:H2 D=some (.lst (mos.map V.int)):=hz
  refine⟨_,rfl,by decide,by decide,afS (fun i σ H9=>∃v3 v4 v5 v6 v7 v8 v9:Option V,σ=[some (.ref a),some (.bl bm),some (.ref D),v3,v4,v5,v6,v7,v8,v9]/\Same H2 H9) ⟨_,_,_,_,_,_,_,rfl,Same.refl _⟩ ?turn ?done⟩
  case done=>
   rintro σ H9 ⟨_,_,_,_,_,_,_,rfl,s9⟩
   exact q H9
  case turn=>
   rintro i σ H9 hi ⟨_,_,_,_,_,_,_,rfl,s9⟩
   have hi':i<2:=hi
   have s09:=s2.trans s9
   refine⟨_,rfl,_,rfl,_,_,rfl,rfl,.inl ⟨by decide,by decide⟩,_,_,rfl,rfl,a,_,rfl,⟨ns,s09.seq hS⟩,⟨by omega,by omega⟩,fun p e0 e1 e2 e3 e4 J1 t1 hp=>⟨_,rfl,p,e0,e1,e2,e3,e4,bm,rfl,SqL.of hp,fun t R w0 w1 w2 w3 w4 m0 m1 m3 v2 v4 kd kw J2 t2 ht hR f0 f1 f3 d2 d4 sv2 sv4 hz3 b2 b4 hb=>⟨t,_,rfl,SqT.of ht,rfl,_,_,rfl,_,_,rfl,rfl,?_⟩⟩⟩
   have s0J:=s09.trans (t1.trans t2)
   refine⟨_,rfl,_,rfl,_,_,rfl,rfl,a,_,rfl,⟨ns,s0J.seq hS⟩,⟨by omega,by omega⟩,fun cc=>⟨(zL 2),fun x1 n1=>⟨(zL 1),fun x2 n2=>⟨x2,20,_,rfl,rfl,aaA,(by decide),(by decide),(by show 20*1<=sizeLine;decide),fun x3 n3=>⟨x1,x3,_,_,rfl,rfl,(aaB n3 _) _ _ ((aaB n2 _) _ _ aaA),aaA,(by show 2+20<=sizeLine;decide),fun ls hls=>⟨_,rfl,cc,ls,bm,[4,20,60,60,60,60,60,60,60,60,60,60,60,60,60,60,60,60,60,60,60,60],rfl,SqL.of aaA,e22,(by show 22<=63;decide),fun ds P J3 t3 hP hd=>?_⟩⟩⟩⟩⟩⟩
   obtain⟨g0,g1,r,rfl,hr22,hz22⟩:=aFO hd
   have u3:Same J2 J3:=(aaB n1 _).trans ((aaB n2 _).trans ((aaB n3 _).trans ((aaB hls _).trans t3)))
   have s2J:Same H2 J3:=s9.trans (t1.trans (t2.trans u3))
   have a0:atI ((g0::g1::r).map V.int) 0=some (.int g0):=afR (j:=0) rfl
   refine⟨_,rfl,P,_,_,_,rfl,rfl,SqL.of hP,a0,rfl,_,rfl,ifI (fun c=>?many) (fun c=>?plain)⟩
   case plain=>exact⟨_,rfl,_,rfl,_,rfl,R,D,w0,w1,w2,w3,w4,m0,m1,m3,v2,v4,kd,kw,mos,rfl,u3 _ _ hR,s2J _ _ hz,f0,f1,f3,hz3,sv2.keep u3,sv4.keep u3,d2,d4,b2,b4,fun H5 s5=>⟨_,rfl,aaX ⟨_,_,_,_,_,_,_,rfl,s2J.trans s5⟩⟩⟩
   case many=>
    have n32:∀w∈[w0,w1,w2,w3,w4],32∉w:=fun w hw=>by
     simp only[aR,cB,or_false] at hw
     rcases hw with rfl | rfl | rfl | rfl | rfl
     ·exact f0.sp
     ·exact f1.sp
     ·exact d2.1.1
     ·exact f3.sp
     ·exact d4.1.1
    have hs:=acG 32 [w0,w1,w2,w3,w4] (dD _ _) n32
    have l5:∀w:List Nat,w.length<=300->(aaK 32 [w0,w1,w,w3,w4]).length<=1600:=fun w hw=>by
     have:=f0.len
     have:=f1.len
     have:=f3.len
     have:=d4.2.1.len
     show (w0++32::(w1++32::(w++32::(w3++32::w4)))).length<=1600
     simp only[aP,bF]
     omega
    have l2:=l5 w2 d2.2.1.len
    refine⟨_,rfl,P,g0,g1,r,rfl,hP,hr22,hz22,fun t' S tw ks J4 t4 ht' hSV dT bO=>⟨t',_,rfl,SqT.of ht',rfl,_,_,rfl,_,_,rfl,rfl,?_⟩⟩
    have l3:=l5 tw dT.2.1.len
    refine⟨_,rfl,rfl,aaK 32 [w0,w1,w2,w3,w4],32,rfl,rfl,(by rw[dQ];omega),fun ps hps=>?_⟩
    rw[hs]
    have hps0:=aaA (H:=J4) (a:=ps) (o:=.lst ([w0,w1,w2,w3,w4].map fun q=>V.str (Tx q)))
    have v0:=aaB hps (.lst ([w0,w1,w2,w3,w4].map fun q=>V.str (Tx q)))
    refine⟨rfl,_,rfl,_,rfl,ps,_,rfl,SqL.of aaA,fun y1 k1=>⟨_,rfl,(zL 1),fun y2 k2=>⟨y1,y2,_,_,rfl,rfl,(aaB k2 _) _ _ aaA,aaA,(by show 2+1<=sizeLine;decide),fun y3 k3=>?_⟩⟩⟩
    have v3:=(aaB k1 (.lst (ae8 ([w0,w1,w2,w3,w4].map fun q=>V.str (Tx q)) none (some 2)))).trans ((aaB k2 (.lst [.str (Tx tw)])).trans (aaB k3 (.lst (ae8 ([w0,w1,w2,w3,w4].map fun q=>V.str (Tx q)) none (some 2)++[.str (Tx tw)]))))
    refine⟨_,rfl,_,rfl,ps,_,rfl,SqL.of (v3 _ _ hps0),fun y4 k4=>⟨y3,y4,_,_,rfl,rfl,(aaB k4 _) _ _ aaA,aaA,(by show 3+2<=sizeLine;decide),fun y5 k5=>⟨32,y5,[w0,w1,tw,w3,w4],rfl,rfl,SqL.of aaA,(by omega),?_⟩⟩⟩
    have v5:=v0.trans (v3.trans ((aaB k4 _).trans (aaB k5 (.lst ([w0,w1,tw,w3,w4].map fun q=>V.str (Tx q))))))
    have hR5:=((u3.trans t4).trans v5) _ _ hR
    refine⟨_,rfl,_,rfl,R,_,rfl,SqL.of hR5,fun z1 q1=>⟨_,rfl,(zL 1),fun z2 q2=>⟨z1,z2,_,_,rfl,rfl,(aaB q2 _) _ _ aaA,aaA,(by show 2+1<=sizeLine;decide),fun z3 q3=>?_⟩⟩⟩
    have x3:=(aaB q1 (.lst (ae8 [V.int m0,.int m1,v2,.int m3,v4] none (some 2)))).trans ((aaB q2 (.lst [.ref S])).trans (aaB q3 (.lst (ae8 [V.int m0,.int m1,v2,.int m3,v4] none (some 2)++[.ref S]))))
    refine⟨_,rfl,_,rfl,R,_,rfl,SqL.of (x3 _ _ hR5),fun z4 q4=>⟨z3,z4,_,_,rfl,rfl,(aaB q4 _) _ _ aaA,aaA,(by show 3+2<=sizeLine;decide),fun z5 q5=>?_⟩⟩
    have x5:=x3.trans ((aaB q4 _).trans (aaB q5 (.lst [V.int m0,.int m1,.ref S,.int m3,v4])))
    have w5:=t4.trans (v5.trans x5)
    exact⟨_,rfl,_,rfl,_,rfl,z5,D,w0,w1,tw,w3,w4,m0,m1,m3,.ref S,v4,some ks,kw,mos,rfl,aaA,(s2J.trans w5) _ _ hz,f0,f1,f3,hz3,hSV.keep (v5.trans x5),sv4.keep (u3.trans w5),dT,d4,bO,b4,fun H5 s5=>⟨_,rfl,aaX ⟨_,_,_,_,_,_,_,rfl,s2J.trans (w5.trans s5)⟩⟩⟩
end
theorem all_mk{l:PySem.W.OpenLaw}{w:World}{K:FG}{h:Heap}{mg:Str->Option Value}{fa f:Addr}{aI aB aD aF aH aE aA aG aJ aL aK a_MONTH_LASTS a_BOUNDS a_BOUNDS_0 a_BOUNDS_1 a_BOUNDS_3:Addr}{t_ROUND_DAYS t_ROUND_YEARS t_LONG_PLACE t_DAY_MINUTES t_HOUR_MINUTES t_FIGURES t_MOST_STRIDE t_MOST_SIGNS t_MOST_ITEMS t_SATURDAY t_SUNDAY t_MOST_BACK t_MOST_DAY t_SUNDAY_TOO t_MOST_NTH t_MOST_MARKS t_ALL_WEEKDAYS t_LONG_LAST t_SHORT_YEAR t_MINUTE t_HOUR t_DAY t_MONTH t_WEEKDAY t_MOST_ROW_SIGNS t_NO_PLACE:Tok}{oc kV dc pm cd ct:Value}{od an:Option Addr}{sl:Array (Option Value)}(X:K.In h)(G:h.Ns mainGlobals mg)(hfa:mg "law"=some (.ref fa))(ZZ:Fs K mg aI aB aD aF aH aE aA aG aJ aL aK a_MONTH_LASTS a_BOUNDS a_BOUNDS_0 a_BOUNDS_1 a_BOUNDS_3 t_ROUND_DAYS t_ROUND_YEARS t_LONG_PLACE t_DAY_MINUTES t_HOUR_MINUTES t_FIGURES t_MOST_STRIDE t_MOST_SIGNS t_MOST_ITEMS t_SATURDAY t_SUNDAY t_MOST_BACK t_MOST_DAY t_SUNDAY_TOO t_MOST_NTH t_MOST_MARKS t_ALL_WEEKDAYS t_LONG_LAST t_SHORT_YEAR t_MINUTE t_HOUR t_DAY t_MONTH t_WEEKDAY t_MOST_ROW_SIGNS t_NO_PLACE)
  (a:PySem.W.nsIn K mainGlobals "law"=some (some (.ref f))) (lk:K.lookup f=some ⟨oc,od,.func (PySem.W.fnOf "law" "law" (abS aoN) (aaY aoN) (aaC aoN) .none kV dc pm an cd ct),sl⟩) (c:PySem.W.codeIn K cd "law"=true) (k:PySem.W.keepIn K (.ref f)=true):
  ∃fd:FuncData,(∀(s:Shared) (v:Value),BindsTo s fd ⟨[v],[]⟩ [("_law_script",v)])/\∀base:Heap,K.In base->base.Ns mainGlobals mg->FnOk l.prog w K mg base CX0 13 fa fd ["_law_script"] (apU K):=by
 cases hfa.symm.trans (PySem.W.mg_of X G a)
 exact⟨_,fun s v=>.of_eq rfl,fun base _ _=>aFC ZZ (auX (st:=aoN) lk c k)⟩
theorem walk{l:PySem.W.OpenLaw}{q:Program}{loose:List Str}{XP:(Str->Option Value)->Heap->Prop}{YP:World->Heap->Prop}{d:DefRec}{K:Params->FG}(hn:l.most=some 63)(hdf:d.params.defaults=[])
  (hY:∀(w:World) (h:Heap),YP w h->(K w.params).In h)
  (F:∀(w:World) (mg:Str->Option Value) (fa:Addr) (h:Heap),(K w.params).In h->h.Ns mainGlobals mg->mg d.name=some (.ref fa)->
   ∃fd:FuncData,(∀(s:Shared) (u:Value),BindsTo s fd ⟨[u],[]⟩ [("_law_script",u)])/\∀base:Heap,(K w.params).In base->base.Ns mainGlobals mg->FnOk l.prog w (K w.params) mg base CX0 13 fa fd ["_law_script"] (apU (K w.params))):
  PySem.W.WalkO q loose XP YP l.row.toRowW d [] (fun f vs=>PySem.call f vs):=
 L2.walk_of (n:=63) (k:=13) (x:="_law_script") (CX:=fun _=>CX0) (sp:=fun w=>apU (K w.params)) hn (by decide) hdf ⟨rfl,by decide,by decide⟩ hY F (fun _ _ a ns hl _ hS=>⟨a,ns,rfl,hS,hl,fun _=>rfl⟩) fun _ _ _ _ _ z=>z
end K45
open PySem PySem.W PyProof.Rows
local macro_rules
  | `(tactic| o_head $H) => `(tactic| (
      refine holds_open (q := Hd.seenBy) (loose := Hd.free) (N := 13470)
        (Xt := Hd.XT)
        (XP := XL Hd.seenBy Hd.read)
        (Yf := Hook.obs $H) (Ya := Hook.val $H) (YP := Hook.says $H)
        ?hl (Hook.of $H) (Hook.keeps $H)
        (fun z y => xl_of z (Bool.and_eq_true_iff.mp y).1) XL.keeps
        (by rfl) (by rfl) (by rfl)
        (fun z y => recFacts_of (Bool.and_eq_true_iff.mp y).2)
        (by rfl) (by first | assumption | decide +kernel) (by decide +kernel)
        ⟨rfl,rfl,rfl,rfl,rfl,by decide +kernel⟩ ?hw ?hc
      (case hl =>
        refine LeftO.of_pieces Hd.opn Hd.siz Hd.run rfl ?_
        intro w
        funext os
        refine looks_pair (Hd.lk0 w os) (looks_pair (Hd.look w os) ?_)
        refine Eq.trans (b := ((Hd.d0.heap_1 w.params).map fun p => p.1).map (Hd.sF w os).heap.get?) ?_ (Eq.trans (Hd.kk w os) ?_)
        all_goals (as_aux_lemma => kernel_rfl))))
open PySem PySem.W PyProof.Rows L2
set_option maxRecDepth 100000 in
set_option maxHeartbeats 0 in
theorem PySem.Challenge.cw_fivefields_k45_rows_shown_holds : PySem.Challenge.rw_fivefields_k45_rows_shown.Holds := by
 w_on;refine holds_law Hd.ws fun said=>?_;k_head;(case hw=>w_witness2)
 k_fill
 refine K45.walk (l:=PySem.Challenge.rw_fivefields_k45_rows_shown) rfl rfl (fun w h Y=>PySem.W.kIn_of Y) ?F
 case F=>
  intro w mg fa h KX G hmg
  refine' K45.all_mk KX G hmg ⟨
   ⟨PySem.W.mg_of KX G ?_,⟨?_,?_,?_,?_⟩,?_,?_⟩,
   ?_,
   ⟨PySem.W.mg_of KX G ?_,⟨?_,?_,?_,?_⟩,?_,?_⟩,
   ?_,
   ⟨PySem.W.mg_of KX G ?_,⟨?_,?_,?_,?_⟩,?_,?_⟩,
   ?_,
   ⟨PySem.W.mg_of KX G ?_,⟨?_,?_,?_,?_⟩,?_,?_⟩,
   ?_,
   ⟨PySem.W.mg_of KX G ?_,⟨?_,?_,?_,?_⟩,?_,?_⟩,
   ?_,
   ⟨PySem.W.mg_of KX G ?_,⟨?_,?_,?_,?_⟩,?_,?_⟩,
   ?_,
   ⟨PySem.W.mg_of KX G ?_,⟨?_,?_,?_,?_⟩,?_,?_⟩,
   ?_,
   ?_,
   ⟨PySem.W.mg_of KX G ?_,⟨?_,?_,?_,?_⟩,?_,?_⟩,
   ?_,
   ⟨PySem.W.mg_of KX G ?_,⟨?_,?_,?_,?_⟩,?_,?_⟩,
   ?_,
   ?_,
   ?_,
   ?_,
   ?_,
   ?_,
   PySem.W.mg_of KX G ?_,
   PySem.W.mg_of KX G ?_,
   PySem.W.mg_of KX G ?_,
   K45.q_MONTH_LASTS ?_,
   PySem.W.mg_of KX G ?_,
   PySem.W.mg_of KX G ?_,
   PySem.W.mg_of KX G ?_,
   PySem.W.mg_of KX G ?_,
   PySem.W.mg_of KX G ?_,
   K45.mg_tx (x:="0123456789") KX G (by decide +kernel) ?_,
   PySem.W.mg_of KX G ?_,
   PySem.W.mg_of KX G ?_,
   PySem.W.mg_of KX G ?_,
   PySem.W.mg_of KX G ?_,
   PySem.W.mg_of KX G ?_,
   PySem.W.mg_of KX G ?_,
   PySem.W.mg_of KX G ?_,
   PySem.W.mg_of KX G ?_,
   PySem.W.mg_of KX G ?_,
   PySem.W.mg_of KX G ?_,
   PySem.W.mg_of KX G ?_,
   PySem.W.mg_of KX G ?_,
   PySem.W.mg_of KX G ?_,
   PySem.W.mg_of KX G ?_,
   PySem.W.mg_of KX G ?_,
   PySem.W.mg_of KX G ?_,
   PySem.W.mg_of KX G ?_,
   PySem.W.mg_of KX G ?_,
   PySem.W.mg_of KX G ?_,
   K45.q_BOUNDS ?_,
   K45.q_BOUNDS_0 ?_,
   K45.q_BOUNDS_1 ?_,
   K45.q_BOUNDS_3 ?_,
   PySem.W.mg_of KX G ?_,
   PySem.W.mg_of KX G ?_,
   PySem.W.mg_none_of KX G ?_,
   PySem.W.mg_none_of KX G ?_,
   PySem.W.mg_none_of KX G ?_,
   PySem.W.mg_none_of KX G ?_,
   PySem.W.mg_none_of KX G ?_,
   PySem.W.mg_none_of KX G ?_,
   PySem.W.mg_none_of KX G ?_,
   PySem.W.mg_none_of KX G ?_,
   PySem.W.mg_none_of KX G ?_,
   PySem.W.mg_none_of KX G ?_,
   PySem.W.mg_none_of KX G ?_,
   PySem.W.mg_none_of KX G ?_,
   PySem.W.mg_none_of KX G ?_,
   PySem.W.mg_none_of KX G ?_,
   aaI KX G ?_ ?_ ?_ ?_ ?_,
   aaI KX G ?_ ?_ ?_ ?_ ?_,
   aaI KX G ?_ ?_ ?_ ?_ ?_,
   aaI KX G ?_ ?_ ?_ ?_ ?_,
   aaI KX G ?_ ?_ ?_ ?_ ?_,
   aaI KX G ?_ ?_ ?_ ?_ ?_,
   aaI KX G ?_ ?_ ?_ ?_ ?_,
   aaI KX G ?_ ?_ ?_ ?_ ?_,
   aaI KX G ?_ ?_ ?_ ?_ ?_,
   aaI KX G ?_ ?_ ?_ ?_ ?_,
   aaI KX G ?_ ?_ ?_ ?_ ?_,
   aaI KX G ?_ ?_ ?_ ?_ ?_,
   aaI KX G ?_ ?_ ?_ ?_ ?_,
   aaI KX G ?_ ?_ ?_ ?_ ?_,
   aaI KX G ?_ ?_ ?_ ?_ ?_,
   aaI KX G ?_ ?_ ?_ ?_ ?_,
   aaI KX G ?_ ?_ ?_ ?_ ?_,
   aaI KX G ?_ ?_ ?_ ?_ ?_,
   aaI KX G ?_ ?_ ?_ ?_ ?_,
   aaI KX G ?_ ?_ ?_ ?_ ?_,
   aaI KX G ?_ ?_ ?_ ?_ ?_,
   aaI KX G ?_ ?_ ?_ ?_ ?_,
   aaI KX G ?_ ?_ ?_ ?_ ?_,
   aaI KX G ?_ ?_ ?_ ?_ ?_,
   aaI KX G ?_ ?_ ?_ ?_ ?_,
   aaI KX G ?_ ?_ ?_ ?_ ?_,
   aaI KX G ?_ ?_ ?_ ?_ ?_,
   aaI KX G ?_ ?_ ?_ ?_ ?_,
   aa1 ?_ ?_ ?_ ?_ ?_ ?_,
   aa1 ?_ ?_ ?_ ?_ ?_ ?_,
   aa1 ?_ ?_ ?_ ?_ ?_ ?_,
   K45.md_Last___init__ ?_ ?_ ?_ ?_ ?_ ?_,
   aa1 ?_ ?_ ?_ ?_ ?_ ?_,
   aa1 ?_ ?_ ?_ ?_ ?_ ?_,
   aa1 ?_ ?_ ?_ ?_ ?_ ?_,
   aa1 ?_ ?_ ?_ ?_ ?_ ?_,
   aa1 ?_ ?_ ?_ ?_ ?_ ?_,
   aa1 ?_ ?_ ?_ ?_ ?_ ?_,
   aa1 ?_ ?_ ?_ ?_ ?_ ?_,
   aa1 ?_ ?_ ?_ ?_ ?_ ?_,
   aa1 ?_ ?_ ?_ ?_ ?_ ?_,
   aa1 ?_ ?_ ?_ ?_ ?_ ?_,
   aaI KX G ?_ ?_ ?_ ?_ ?_,
   aaI KX G ?_ ?_ ?_ ?_ ?_,
   aaI KX G ?_ ?_ ?_ ?_ ?_,
   aaI KX G ?_ ?_ ?_ ?_ ?_,
   aaI KX G ?_ ?_ ?_ ?_ ?_,
   aaI KX G ?_ ?_ ?_ ?_ ?_,
   aaI KX G ?_ ?_ ?_ ?_ ?_,
   aaI KX G ?_ ?_ ?_ ?_ ?_,
   aaI KX G ?_ ?_ ?_ ?_ ?_,
   aaI KX G ?_ ?_ ?_ ?_ ?_,
   aa1 ?_ ?_ ?_ ?_ ?_ ?_,
   aa1 ?_ ?_ ?_ ?_ ?_ ?_,
   aaI KX G ?_ ?_ ?_ ?_ ?_,
   aaI KX G ?_ ?_ ?_ ?_ ?_,
   aaI KX G ?_ ?_ ?_ ?_ ?_,
   aaI KX G ?_ ?_ ?_ ?_ ?_,
   aaI KX G ?_ ?_ ?_ ?_ ?_,
   aaI KX G ?_ ?_ ?_ ?_ ?_,
   aaI KX G ?_ ?_ ?_ ?_ ?_,
   aaI KX G ?_ ?_ ?_ ?_ ?_,
   aaI KX G ?_ ?_ ?_ ?_ ?_,
   aaI KX G ?_ ?_ ?_ ?_ ?_,
   aaI KX G ?_ ?_ ?_ ?_ ?_,
   aaI KX G ?_ ?_ ?_ ?_ ?_,
   aaI KX G ?_ ?_ ?_ ?_ ?_,
   aaI KX G ?_ ?_ ?_ ?_ ?_,
   aaI KX G ?_ ?_ ?_ ?_ ?_,
   aaI KX G ?_ ?_ ?_ ?_ ?_,
   aaI KX G ?_ ?_ ?_ ?_ ?_,
   aaI KX G ?_ ?_ ?_ ?_ ?_,
   aa1 ?_ ?_ ?_ ?_ ?_ ?_,
   aaI KX G ?_ ?_ ?_ ?_ ?_,
   aaI KX G ?_ ?_ ?_ ?_ ?_,
   aaI KX G ?_ ?_ ?_ ?_ ?_,
   aaI KX G ?_ ?_ ?_ ?_ ?_,
   aaI KX G ?_ ?_ ?_ ?_ ?_,
   aaI KX G ?_ ?_ ?_ ?_ ?_,
   aaI KX G ?_ ?_ ?_ ?_ ?_,
   aaI KX G ?_ ?_ ?_ ?_ ?_,
   aaI KX G ?_ ?_ ?_ ?_ ?_,
   aaI KX G ?_ ?_ ?_ ?_ ?_,
   aaI KX G ?_ ?_ ?_ ?_ ?_,
   aa1 ?_ ?_ ?_ ?_ ?_ ?_,
   aa1 ?_ ?_ ?_ ?_ ?_ ?_,
   aa1 ?_ ?_ ?_ ?_ ?_ ?_,
   aa1 ?_ ?_ ?_ ?_ ?_ ?_,
   aa1 ?_ ?_ ?_ ?_ ?_ ?_,
   aa1 ?_ ?_ ?_ ?_ ?_ ?_,
   aa1 ?_ ?_ ?_ ?_ ?_ ?_,
   aa1 ?_ ?_ ?_ ?_ ?_ ?_,
   aaI KX G ?_ ?_ ?_ ?_ ?_,
   aaI KX G ?_ ?_ ?_ ?_ ?_,
   aaI KX G ?_ ?_ ?_ ?_ ?_,
   aaI KX G ?_ ?_ ?_ ?_ ?_,
   aaI KX G ?_ ?_ ?_ ?_ ?_,
   aaI KX G ?_ ?_ ?_ ?_ ?_,
   aa1 ?_ ?_ ?_ ?_ ?_ ?_,
   aaI KX G ?_ ?_ ?_ ?_ ?_,
   aaI KX G ?_ ?_ ?_ ?_ ?_,
   aaI KX G ?_ ?_ ?_ ?_ ?_,
   aaI KX G ?_ ?_ ?_ ?_ ?_,
   aaI KX G ?_ ?_ ?_ ?_ ?_⟩ ?_ ?_ ?_ ?_
  all_goals try (intro _ _ _ _ _ _ us hl;first | (obtain⟨_,rfl⟩:=aGU hl;rfl) | (obtain⟨_,_,rfl⟩:=aMW hl;rfl) | (obtain⟨_,_,_,rfl⟩:=aJZ hl;rfl) | (obtain⟨_,_,_,_,rfl⟩:=aKF hl;rfl) | (obtain⟨_,_,_,_,_,rfl⟩:=len5 hl;rfl))
  all_goals try (as_aux_lemma=>k_is)
