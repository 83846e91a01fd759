import PyProof.Rows.All
import Wide.All
import OpenK.AllK
import Wide.FinOn
import KE.KLam
import Lean
import PyProof.EqAt
import PyProof.EqKinds
import PyProof.TupleCall
import PySem.Challenge.RW_fivefields_k58_whole_none_between
set_option maxHeartbeats 4000000
set_option compiler.extract_closed false
namespace Hd
open PySem PySem.W PySem.Calls PyProof.Rows
section
set_option maxHeartbeats 0
set_option maxRecDepth 100000
set_option linter.all false
theorem ws:OpenLaw.wellSaid PySem.Challenge.rw_fivefields_k58_whole_none_between=true:=by
 delta OpenLaw.wellSaid
 with_reducible refine look_both (look_both (look_both (look_both (look_both (look_both (look_both (look_both (look_both (look_both (look_both (look_both (look_both (look_both (look_both (look_both (look_both (look_both ?_ ?_) ?_) ?_) ?_) ?_) ?_) ?_) ?_) ?_) ?_) ?_) ?_) ?_) ?_) ?_) ?_) ?_) ?_
 ·delta OpenRow.wellSaid
  with_reducible refine look_both (look_both ?_ ?_) ?_
  ·delta OpenRow.partSaid
   with_reducible refine look_both (look_both (look_both (look_both (look_both (look_both (look_both (look_both (look_both (look_both (look_both (look_both ?_ ?_) ?_) ?_) ?_) ?_) ?_) ?_) ?_) ?_) ?_) ?_) ?_
   ·delta looksOpen
    with_reducible refine look_both (look_both (look_both (look_both (look_both ?_ ?_) ?_) ?_) ?_) ?_
    all_goals decide +kernel
   all_goals decide +kernel
  all_goals decide +kernel
 all_goals decide +kernel
noncomputable section
noncomputable abbrev pw:Program:=PySem.Challenge.pw_fivefields_k58_whole_none_between
noncomputable abbrev bi:List Stmt:=behindTheImports pw
noncomputable def nth:List Stmt->Nat->Stmt
 |s::_,0=>s
 |_::r,n+1=>nth r n
 |[],_=>.Pass default
noncomputable def tp(i:Nat):Stmt:=nth pw.main.body i
noncomputable def bd:Stmt->List Stmt
 |.FunctionDef _ _ b _ _ _ _ _ _ _=>b
 |.ClassDef _ _ _ b _ _ _ _ _ _ _=>b
 |_=>[]
noncomputable def ag:Stmt->Arguments
 |.FunctionDef _ a _ _ _ _ _ _ _ _=>a
 |_=>⟨[],[],none,[],[],none,[]⟩
noncomputable def sc:Stmt->Scope
 |.FunctionDef _ _ _ _ _ _ s _ _ _=>s
 |.ClassDef _ _ _ _ _ _ s _ _ _ _=>s
 |_=>pw.main.scope
noncomputable def r(a:Addr):Value:=.ref a
noncomputable def i(n:Int):Value:=.int n 0
noncomputable def de(P:Params)(k:Str)(t:Tok)(v:Value):DictEntry:=⟨PyData.keyHash P k,.str k t,v⟩
noncomputable def tu(l:List Value):Obj:=⟨.type "tuple",none,.seq l.toArray 0,#[]⟩
noncomputable def di(l:List DictEntry)(n:Nat):Obj:=⟨.type "dict",none,.dict l.toArray n,#[]⟩
noncomputable def co(l:List Value):Obj:=⟨.type "code",none,.fields l.toArray,#[]⟩
noncomputable def fd(l:List Value):Obj:=⟨.none,none,.fields l.toArray,#[]⟩
noncomputable def lf(x:Obj):BT:=.node x .nil .nil
noncomputable abbrev nd:Obj->BT->BT->BT:=BT.node
noncomputable def sf(t:Tok):Value:=.str "/claim/cut.py" t
noncomputable def fz(n q:Str)(s:Stmt):Obj:=⟨.none,none,.func ⟨n,q,ag s,.stmts (bd s),sc s,0,[],.none,.none,.none,.none,none,.none,.none,0⟩,#[]⟩
noncomputable def fn(n q:Str)(s:Stmt)(g:Addr)(c:List (Str×Addr))(d k o m:Value)(a:Option Addr)(x y:Value)(b:Addr):Obj:=⟨.type "function",none,.func ⟨n,q,ag s,.stmts (bd s),sc s,g,c,d,k,o,m,a,x,y,b⟩,#[]⟩
noncomputable def ib(s:Stmt)(i:Nat):Stmt:=nth (bd s) i
noncomputable def ev:Env:={scope:=pw.main.scope,locals:=mainNs,globals:=mainNs,cells:=[],code:=(r 13),frame:=some 14}
noncomputable def cd:Code:=.body bi ev
noncomputable abbrev an:Option Value:=(some (r 6))
noncomputable abbrev bk:List Frame:=[topFrame ⟨0,0,0,0⟩]
def cO(n q:Str)(t l c x a u:Nat):Obj:=co [.str n t,.str q (t+1),sf (t+2),i (Int.ofNat l),i (Int.ofNat c),i 0,i 0,i (Int.ofNat x),r a,.bool true,i 181,r (a+1),.none,r (a+2),r (a+3),r (a+4),i (Int.ofNat u),i (Int.ofNat l),sf (u+1)]
def cP(n:Str)(t l c x a u:Nat):Obj:=cO n n t l c x a u
def cK(n q:Str)(t l a u:Nat):Obj:=co [.str n t,.str q (t+1),sf (t+2),i (Int.ofNat l),i 0,i 0,i 0,i 0,r a,.bool false,i 181,r (a+1),.none,.none,.none,.none,i (Int.ofNat u),i (Int.ofNat l),sf (u+1)]
def fQ(n q:Str)(s:Stmt)(m:Value)(a:Addr):Obj:=fn n q s 3 [] .none .none .none m none (r a) .none 0
def fP(n:Str)(k:Nat)(m:Value)(a:Addr):Obj:=fQ n n (tp k) m a
def fY(n:Str)(k:Nat):Obj:=fz n n (tp k)
def fS(n q:Str)(s z:Stmt)(m:Value)(a:Addr):Obj:=⟨(.type "function"),none,(.func ⟨n,q,ag s,.stmts (bd s),sc z,3,[],.none,.none,.none,m,none,r a,.none,0⟩),#[]⟩
def fT(n q:Str)(s z:Stmt):Obj:=⟨.none,none,(.func ⟨n,q,ag s,.stmts (bd s),sc z,0,[],.none,.none,.none,.none,none,.none,.none,0⟩),#[]⟩
def ss:List Str->Nat->List Value
 |[],_=>[]
 |x::l,n=>.str x n::ss l (n+1)
def tS(n:Nat)(l:List Str):Obj:=tu (ss l n)
def dr(P:Params)(k:Str)(t:Tok)(a:Addr):DictEntry:=de P k t (r a)
def f3(k:Nat):List (Nat×Nat)->List Value
 |[]=>[]
 |(a,b)::l=>i (Int.ofNat a)::i (Int.ofNat k)::r b::f3 k l
def fD(k:Nat)(l:List (Nat×Nat)):Obj:=fd (f3 k l)
def fr(a b:Addr)(m:Value):Obj:=⟨(.type "frame"),none,.plain,#[some (r a),some (r 3),some (r b),none,some m,none,some (r 0)]⟩
def bm(s:String)(v:Value):Obj:=⟨(.type "builtin_function_or_method"),none,(.fields #[.builtin s,v]),#[]⟩
def sp2(l:List Obj):List Obj×List Obj:=List.rec ([],[]) (fun x _ p=>(x::p.2,p.1)) l
def brn:Nat->List Obj->BT
 |0,_=>.nil
 |_+1,[]=>.nil
 |n+1,x::l=>.node x (brn n (sp2 l).1) (brn n (sp2 l).2)
def su(a b c:Addr):Obj:=⟨(.type "super"),none,(.fields #[r a,r b,r c]),#[]⟩
def mv0:Value:=.str "fivefields.marks" 725
def mv1:Value:=.str "fivefields.errors" 194
def mv2:Value:=.str "fivefields.days" 289
def mv3:Value:=.str "fivefields.months" 410
def mv4:Value:=.str "fivefields.ranges" 461
def mv5:Value:=.str "fivefields.papers" 513
def mv6:Value:=.str "fivefields.leaps" 558
def mv7:Value:=.str "fivefields.fields" 639
def mv8:Value:=.str "law_fivefields_k58_whole_none_between" 1344
def mv9:Value:=.str "fivefields.rows" 1168
def o0:=tu []
def o1:=fd []
def o2:=cK "<module>" "<module>" 182 1 11 185
def o3:Obj:=⟨(.type "frame"),none,.plain,#[(some (r 13)),(some (r 3)),(some (r 3)),none,(some (.str "__main__" 164)),none,(some (r 0))]⟩
def hA(P:Params):Heap:=⟨⟨[(boot_o_0 P),(boot_o_1 P),(boot_o_2 P),(boot_o_3 P),(boot_o_4 P),(boot_o_5 P),(boot_o_6 P),(boot_o_7 P),(boot_o_8 P),(boot_o_9 P),(boot_o_10 P),o0,o1,o2,o3]⟩,⟨[],[],[],0,[],[],false,#[],[],0,false,false,false,0,[2000,10,10],false,0,true,[],[],0,false⟩⟩
def sA(w:World)(os:OsState):Shared:=⟨hA w.params,#[],⟨0,0,0,0⟩,187,os⟩
theorem pre(w:World)(os:OsState):
  topGo treeTable pw w 11 an 12 ⟨boot_heap w.params,⟨[]⟩,boot_drawn,boot_toks,os⟩ (topStub pw) =
  some (sA w os,⟨denote treeTable cd,cd,⟨0,0,0,0⟩,bk⟩):=by kernel_rfl
def t0(P:Params):BT:=brn 5 [(boot_o_0 P),(boot_o_1 P),(boot_o_2 P),(boot_o_3 P),(boot_o_4 P),(boot_o_5 P),(boot_o_6 P),(boot_o_7 P),(boot_o_8 P),(boot_o_9 P),(boot_o_10 P),o0,o1,o2,o3]
def s0(w:World)(os:OsState):SharedT:=⟨t0 w.params,15,⟨[],[],[],0,[],[],false,#[],[],0,false,false,false,0,[2000,10,10],false,0,true,[],[],0,false⟩,#[],⟨0,0,0,0⟩,187,os⟩
theorem blk(w:World)(os:OsState):
  segRun treeTable pw w 11 an 1 1 (sA w os) (blockOf bi ev cd ⟨0,0,0,0⟩ bk) =
  some (.next,(s0 w os).abs,cd,⟨0,0,0,0⟩):=by kernel_rfl
def o4(P:Params):=di [de P "__name__" 165 mv0,de P "__doc__" 166 .none,de P "__package__" 167 .none,de P "__loader__" 168 (.builtin "__main__.__loader__#opaque"),de P "__spec__" 169 .none,dr P "__annotations__" 170 6,dr P "__builtins__" 171 4,de P "__file__" 173 (sf 172),de P "__cached__" 174 .none,dr P "_wall" 193 21,dr P "FieldError" 213 31,dr P "NoDay" 229 44,dr P "NoField" 254 63,dr P "NoRow" 279 82,dr P "is_whole" 288 91,dr P "MONTH_LASTS" 303 92,de P "ROUND_YEARS" 305 (.int 400 304),de P "ROUND_DAYS" 307 (.int 146097 306),dr P "is_long" 314 99,dr P "multiples_before" 322 106,dr P "days_before" 330 113,dr P "last_of" 338 120,dr P "is_date" 347 127,dr P "day_of" 353 132,dr P "year_of" 361 139,dr P "date_of" 371 146,dr P "weekday" 378 153,de P "FIGURES" 382 (.str "0123456789" 381),dr P "all_figures" 388 158,dr P "is_written" 395 165,de P "DAY_MINUTES" 399 (.int 1440 398),de P "HOUR_MINUTES" 401 (.int 60 400),dr P "parted" 409 172,de P "LONG_PLACE" 413 (.int 12 412),de P "LONG_LAST" 415 (.int 29 414),de P "SHORT_YEAR" 417 (.int 1 416),dr P "kind_from" 427 179,dr P "kind_of" 435 186,dr P "month_at" 444 193,dr P "next_month" 452 200,dr P "month_before" 460 207,dr P "has" 470 214,dr P "lowest" 477 221,dr P "starts_of" 483 226,dr P "end_from" 492 233,dr P "ranges_of" 498 238,dr P "shown_range" 506 245,dr P "shown_ranges" 512 250,dr P "add_stretch" 524 257,dr P "last_shut_day" 535 264,dr P "shut_end" 544 271,dr P "paper_of" 557 278,de P "MOST_MONTHS" 561 (.int 492 560),de P "MOST_MONTH_MINUTES" 563 (.int 44640 562),dr P "minutes_on" 573 285,dr P "minutes_by" 582 292,dr P "month_of" 590 299,dr P "first_at" 604 306,dr P "final_at" 618 313,dr P "next_from" 628 320,dr P "last_to" 638 327,de P "MOST_SIGNS" 642 (.int 300 641),de P "MOST_ITEMS" 644 (.int 40 643),de P "MOST_STRIDE" 646 (.int 99 645),dr P "mask_of" 655 334,dr P "numbers_in" 661 339,dr P "run_mask" 670 346,dr P "read_number" 680 353,dr P "read_run" 686 358,dr P "read_strided" 699 365,dr P "read_item" 710 372,dr P "read_field" 724 379,de P "MOST_MARKS" 728 (.int 20 727),de P "MOST_DAY" 730 (.int 31 729),de P "MOST_BACK" 732 (.int 30 731),de P "MOST_NTH" 734 (.int 5 733),de P "SUNDAY" 736 (.int 0 735),de P "SATURDAY" 738 (.int 6 737),de P "SUNDAY_TOO" 740 (.int 7 739),de P "ALL_WEEKDAYS" 742 (.int 127 741),dr P "weekday_at" 750 386,dr P "all_days" 757 393,dr P "nearest_work" 767 400,dr P "first_one" 775 407,dr P "Mark" 811 431,dr P "Numbers" 852 466,dr P "Last" 894 500,dr P "Near" 935 533,dr P "LastWork" 967 559,dr P "Weekdays" 1010 592,dr P "Nth" 1054 625] 91
def o5:=fD 0 [(1,20),(5,27),(7,40),(9,52),(13,71),(18,90),(24,98),(26,105),(28,112),(31,119),(35,126),(39,131),(44,138),(49,145),(57,152),(61,157),(63,164),(68,171),(75,178),(78,185),(80,192),(86,199),(90,206),(95,213),(97,220),(99,225),(102,232),(107,237),(109,244),(113,249),(116,256),(121,263),(128,270),(134,277),(146,284),(151,291),(155,298),(158,305),(169,312),(180,319),(185,326),(194,333),(199,338),(201,345),(203,352),(210,357),(217,364),(224,371),(232,378),(254,385),(256,392),(258,399),(265,406),(267,413),(274,441),(284,474),(298,508),(310,541),(317,567),(330,600)]
def o6:=tS 190 ["k"]
def o7:=fY "_wall" 0
def o8:=cP "_wall" 187 1 1 3 15 191
def o9:=fn "_wall" "_wall" (tp 0) 3 [] .none .none .none (.str "__main__" 164) none (r 20) .none 0
def o10:=tu [(.type "ValueError")]
def o11:=bm "type.__prepare__" (.type "type")
def o12(P:Params):=di [de P "__module__" 203 mv1,de P "__qualname__" 205 (.str "FieldError" 204),de P "__firstlineno__" 207 (.int 5 206),dr P "__static_attributes__" 208 29] 4
def o13:=cK "FieldError" "FieldError" 198 5 25 201
def o14:=fr 27 24 mv1
def o15(P:Params):=di [de P "__module__" 203 mv1,de P "__firstlineno__" 207 (.int 5 206),dr P "__static_attributes__" 208 29,dr P "__weakref__" 210 32,de P "__doc__" 211 .none] 3
def o16:Obj:=⟨(.type "type"),none,(.cls ⟨"FieldError",[(.type "ValueError")],[(r 31),(.type "ValueError"),(.type "Exception"),(.type "BaseException"),(.type "object")],30,"FieldError",true,[],[(r 44),(r 63),(r 82)],false,none,false⟩),#[(some (r 22)),none,(some (.str "FieldError" 196)),(some (.str "FieldError" 204)),(some (.builtin "ValueError.__new__")),(some (.bool true))]⟩
def o17:Obj:=⟨(.type "getset_descriptor"),none,(.fields #[(.str "__weakref__" 209),(r 31),(.builtin "ExceptionGroup.__weakref__"),.none]),#[]⟩
def o18:=su 31 31 31
def o19:=bm "object.__init_subclass__" (r 31)
def o20:=tu [(r 31)]
def o21(P:Params):=di [de P "__module__" 221 mv1,de P "__qualname__" 223 (.str "NoDay" 222),de P "__firstlineno__" 225 (.int 7 224),dr P "__static_attributes__" 226 42] 4
def o22:=cK "NoDay" "NoDay" 216 7 38 219
def o23:=fr 40 37 mv1
def o24(P:Params):=di [de P "__module__" 221 mv1,de P "__firstlineno__" 225 (.int 7 224),dr P "__static_attributes__" 226 42,de P "__doc__" 227 .none] 2
def o25:Obj:=⟨(.type "type"),none,(.cls ⟨"NoDay",[(r 31)],[(r 44),(r 31),(.type "ValueError"),(.type "Exception"),(.type "BaseException"),(.type "object")],43,"NoDay",true,[],[],false,none,false⟩),#[(some (r 35)),none,(some (.str "NoDay" 214)),(some (.str "NoDay" 222)),(some (.builtin "ValueError.__new__")),(some (.bool true))]⟩
def o26:=su 44 44 44
def o27:=bm "object.__init_subclass__" (r 44)
def o28(P:Params):=di [de P "__module__" 237 mv1,de P "__qualname__" 239 (.str "NoField" 238),de P "__firstlineno__" 241 (.int 9 240),dr P "__init__" 249 60,dr P "__static_attributes__" 251 61] 5
def o29:=fD 4 [(11,59)]
def o30:=cK "NoField" "NoField" 232 9 50 235
def o31:=fr 52 49 mv1
def o32:=tS 245 ["self","at"]
def o33:=fz "__init__" "NoField.__init__" (ib (tp 4) 0)
def o34:=cO "__init__" "NoField.__init__" 242 11 2 3 54 247
def o35:=fQ "__init__" "NoField.__init__" (ib (tp 4) 0) mv1 59
def o36:=tS 250 ["at"]
def o37(P:Params):=di [de P "__module__" 237 mv1,de P "__firstlineno__" 241 (.int 9 240),dr P "__init__" 249 60,dr P "__static_attributes__" 251 61,de P "__doc__" 252 .none] 2
def o38:Obj:=⟨(.type "type"),none,(.cls ⟨"NoField",[(r 31)],[(r 63),(r 31),(.type "ValueError"),(.type "Exception"),(.type "BaseException"),(.type "object")],62,"NoField",true,[],[],false,none,false⟩),#[(some (r 47)),none,(some (.str "NoField" 230)),(some (.str "NoField" 238)),(some (.builtin "ValueError.__new__")),(some (.bool true))]⟩
def o39:=su 63 63 63
def o40:=bm "object.__init_subclass__" (r 63)
def o41(P:Params):=di [de P "__module__" 262 mv1,de P "__qualname__" 264 (.str "NoRow" 263),de P "__firstlineno__" 266 (.int 13 265),dr P "__init__" 274 79,dr P "__static_attributes__" 276 80] 5
def o42:=fD 4 [(15,78)]
def o43:=cK "NoRow" "NoRow" 257 13 69 260
def o44:=fr 71 68 mv1
def o45:=tS 270 ["self","place"]
def o46:=fz "__init__" "NoRow.__init__" (ib (tp 5) 0)
def o47:=cO "__init__" "NoRow.__init__" 267 15 2 3 73 272
def o48:=fQ "__init__" "NoRow.__init__" (ib (tp 5) 0) mv1 78
def o49:=tS 275 ["place"]
def o50(P:Params):=di [de P "__module__" 262 mv1,de P "__firstlineno__" 266 (.int 13 265),dr P "__init__" 274 79,dr P "__static_attributes__" 276 80,de P "__doc__" 277 .none] 2
def o51:Obj:=⟨(.type "type"),none,(.cls ⟨"NoRow",[(r 31)],[(r 82),(r 31),(.type "ValueError"),(.type "Exception"),(.type "BaseException"),(.type "object")],81,"NoRow",true,[],[],false,none,false⟩),#[(some (r 66)),none,(some (.str "NoRow" 255)),(some (.str "NoRow" 263)),(some (.builtin "ValueError.__new__")),(some (.bool true))]⟩
def o52:=su 82 82 82
def o53:=bm "object.__init_subclass__" (r 82)
def o54:=tS 285 ["thing"]
def o55:=fY "is_whole" 7
def o56:=cP "is_whole" 282 18 1 3 85 286
def o57:=fn "is_whole" "is_whole" (tp 7) 3 [] .none .none .none (.str "fivefields.wholes" 280) none (r 90) .none 0
def o58:=tu [(.int 31 291),(.int 28 292),(.int 31 293),(.int 30 294),(.int 31 295),(.int 30 296),(.int 31 297),(.int 31 298),(.int 30 299),(.int 31 300),(.int 30 301),(.int 31 302)]
def o59:=tS 311 ["year"]
def o60:=fY "is_long" 12
def o61:=cP "is_long" 308 24 1 3 93 312
def o62:=fP "is_long" 12 mv2 98
def o63:=tS 318 ["year","step"]
def o64:=fY "multiples_before" 13
def o65:=cP "multiples_before" 315 26 2 3 100 320
def o66:=fP "multiples_before" 13 mv2 105
def o67:=tS 326 ["year","longs"]
def o68:=fY "days_before" 14
def o69:=cP "days_before" 323 28 1 3 107 328
def o70:=fP "days_before" 14 mv2 112
def o71:=tS 334 ["year","month"]
def o72:=fY "last_of" 15
def o73:=cP "last_of" 331 31 2 3 114 336
def o74:=fP "last_of" 15 mv2 119
def o75:=tS 342 ["year","month","day"]
def o76:=fY "is_date" 16
def o77:=cP "is_date" 339 35 3 3 121 345
def o78:=fP "is_date" 16 mv2 126
def o79:=fY "day_of" 17
def o80:=co [(.str "day_of" 348),(.str "day_of" 349),(sf 350),(i 39),(i 3),(i 0),(i 0),(i 3),(r 128),(.bool true),(i 181),(r 129),.none,.none,.none,(r 130),(i 351),(i 39),(sf 352)]
def o81:=fP "day_of" 17 mv2 131
def o82:=tS 357 ["day","year"]
def o83:=fY "year_of" 18
def o84:=cP "year_of" 354 44 1 3 133 359
def o85:=fP "year_of" 18 mv2 138
def o86:=tS 365 ["day","year","month","rest"]
def o87:=fY "date_of" 19
def o88:=cP "date_of" 362 49 1 3 140 369
def o89:=fP "date_of" 19 mv2 145
def o90:=tS 375 ["day"]
def o91:=fY "weekday" 20
def o92:=cP "weekday" 372 57 1 3 147 376
def o93:=fP "weekday" 20 mv2 152
def o94:=fY "all_figures" 23
def o95:=co [(.str "all_figures" 383),(.str "all_figures" 384),(sf 385),(i 61),(i 1),(i 0),(i 0),(i 3),(r 154),(.bool true),(i 181),(r 155),.none,.none,.none,(r 156),(i 386),(i 61),(sf 387)]
def o96:=fn "all_figures" "all_figures" (tp 23) 3 [] .none .none .none (.str "fivefields.figures" 379) none (r 157) .none 0
def o97:=tS 392 ["text"]
def o98:=fY "is_written" 24
def o99:=cP "is_written" 389 63 1 3 159 393
def aL4:=fn "is_written" "is_written" (tp 24) 3 [] .none .none .none (.str "fivefields.figures" 379) none (r 164) .none 0
def aNG:=tS 405 ["moment","time"]
def aOG:=fY "parted" 28
def aNH:=cP "parted" 402 68 1 3 166 407
def aEZ:=fn "parted" "parted" (tp 28) 3 [] .none .none .none (.str "fivefields.moments" 396) none (r 171) .none 0
def aMR:=tS 421 ["year","month","day","place"]
def aFO:=fY "kind_from" 33
def aKD:=cP "kind_from" 418 75 3 3 173 425
def aHV:=fP "kind_from" 33 mv3 178
def aJO:=tS 431 ["year","month"]
def aMS:=fY "kind_of" 34
def aEQ:=cP "kind_of" 428 78 2 3 180 433
def aF4:=fP "kind_of" 34 mv3 185
def aH6:=tS 439 ["kind","place","first"]
def aLH:=fY "month_at" 35
def aN1:=cP "month_at" 436 80 1 3 187 442
def aGA:=fP "month_at" 35 mv3 192
def aI5:=tS 448 ["year","month"]
def aLQ:=fY "next_month" 36
def aGT:=cP "next_month" 445 86 2 3 194 450
def aM2:=fP "next_month" 36 mv3 199
def aOL:=tS 456 ["year","month"]
def aLJ:=fT "month_before" "month_before" (tp 37) (tp 36)
def aNX:=cP "month_before" 453 90 2 3 201 458
def aE9:=fS "month_before" "month_before" (tp 37) (tp 36) mv3 206
def aI2:=tS 466 ["mask","number"]
def aNE:=fY "has" 39
def aHG:=cP "has" 463 95 2 3 208 468
def aN7:=fP "has" 39 mv4 213
def aM4:=tS 474 ["mask"]
def aJB:=fY "lowest" 40
def aNR:=cP "lowest" 471 97 1 3 215 475
def aH8:=fP "lowest" 40 mv4 220
def aGK:=fY "starts_of" 41
def aKO:=co [(.str "starts_of" 478),(.str "starts_of" 479),(sf 480),(i 99),(i 1),(i 0),(i 0),(i 3),(r 222),(.bool true),(i 181),(r 223),.none,.none,.none,(r 224),(i 481),(i 99),(sf 482)]
def aJX:=fP "starts_of" 41 mv4 225
def aN8:=tS 487 ["mask","start","end"]
def aON:=fY "end_from" 42
def aKS:=cP "end_from" 484 102 2 3 227 490
def aHW:=fP "end_from" 42 mv4 232
def aNT:=fY "ranges_of" 43
def aHK:=co [(.str "ranges_of" 493),(.str "ranges_of" 494),(sf 495),(i 107),(i 1),(i 0),(i 0),(i 3),(r 234),(.bool true),(i 181),(r 235),.none,.none,.none,(r 236),(i 496),(i 107),(sf 497)]
def aJI:=fP "ranges_of" 43 mv4 237
def aGD:=tS 502 ["first","last"]
def aES:=fY "shown_range" 44
def aHQ:=cP "shown_range" 499 109 2 3 239 504
def aFY:=fP "shown_range" 44 mv4 244
def aK9:=fY "shown_ranges" 45
def aGR:=co [(.str "shown_ranges" 507),(.str "shown_ranges" 508),(sf 509),(i 113),(i 1),(i 0),(i 0),(i 3),(r 246),(.bool true),(i 181),(r 247),.none,.none,.none,(r 248),(i 510),(i 113),(sf 511)]
def aHP:=fP "shown_ranges" 45 mv4 249
def aFC:=tS 518 ["stretches","first","last","told"]
def aIX:=fY "add_stretch" 47
def aLB:=cP "add_stretch" 515 116 4 3 251 522
def aLS:=fP "add_stretch" 47 mv5 256
def aKQ:=tS 528 ["row","day","date","kind","later"]
def aJZ:=fY "last_shut_day" 48
def aN2:=cP "last_shut_day" 525 121 2 3 258 533
def aG1:=fP "last_shut_day" 48 mv5 263
def aF8:=tS 539 ["row","moment","word"]
def aI6:=fY "shut_end" 49
def aNC:=cP "shut_end" 536 128 3 3 265 542
def aFA:=fP "shut_end" 49 mv5 270
def aLK:=tS 548 ["row","begin","end","stretches","moment","word","last"]
def aNP:=fY "paper_of" 50
def aG3:=cP "paper_of" 545 134 3 3 272 555
def aMD:=fP "paper_of" 50 mv5 277
def aJ1:=tS 567 ["days","minutes","place","times"]
def aM9:=fY "minutes_on" 54
def aK0:=cP "minutes_on" 564 146 1 3 279 571
def aOP:=fP "minutes_on" 54 mv6 284
def aNI:=tS 577 ["known","on_days","kind"]
def aMK:=fY "minutes_by" 55
def aK6:=cP "minutes_by" 574 151 3 3 286 580
def aLG:=fP "minutes_by" 55 mv6 291
def aJU:=tS 586 ["moment","date"]
def aME:=fY "month_of" 56
def aFK:=cP "month_of" 583 155 1 3 293 588
def aG8:=fP "month_of" 56 mv6 298
def aG9:=tS 594 ["on_days","moment","month","known","turn","start","passed","rest"]
def aNO:=fY "first_at" 57
def aOE:=cP "first_at" 591 158 2 3 300 602
def aE3:=fP "first_at" 57 mv6 305
def aIE:=tS 608 ["on_days","moment","month","known","turn","start","latest","rest"]
def aLL:=fY "final_at" 58
def aJS:=cP "final_at" 605 169 2 3 307 616
def aOI:=fP "final_at" 58 mv6 312
def aK1:=tS 622 ["row","moment","found"]
def aMU:=tS 625 ["row"]
def aLY:=fY "next_from" 59
def aI3:=cP "next_from" 619 180 2 3 314 626
def aHO:=fP "next_from" 59 mv6 319
def aFR:=tS 632 ["row","moment","found"]
def aKT:=tS 635 ["row"]
def aHX:=fY "last_to" 60
def aHI:=cP "last_to" 629 185 2 3 321 636
def aMZ:=fP "last_to" 60 mv6 326
def aHU:=tS 650 ["numbers","mask","number"]
def aHY:=fY "mask_of" 65
def aLT:=cP "mask_of" 647 194 1 3 328 653
def aIY:=fP "mask_of" 65 mv7 333
def aI1:=fY "numbers_in" 66
def aGG:=co [(.str "numbers_in" 656),(.str "numbers_in" 657),(sf 658),(i 199),(i 1),(i 0),(i 0),(i 3),(r 335),(.bool true),(i 181),(r 336),.none,.none,.none,(r 337),(i 659),(i 199),(sf 660)]
def aEW:=fP "numbers_in" 66 mv7 338
def aLM:=tS 665 ["first","last","stride"]
def aFE:=fY "run_mask" 67
def aHC:=cP "run_mask" 662 201 3 3 340 668
def aJ5:=fP "run_mask" 67 mv7 345
def aL8:=tS 674 ["text","low","high","number"]
def aIJ:=fY "read_number" 68
def aKR:=cP "read_number" 671 203 3 3 347 678
def aGU:=fP "read_number" 68 mv7 352
def aJW:=fY "read_run" 69
def aJP:=co [(.str "read_run" 681),(.str "read_run" 682),(sf 683),(i 210),(i 3),(i 0),(i 0),(i 3),(r 354),(.bool true),(i 181),(r 355),.none,.none,.none,(r 356),(i 684),(i 210),(sf 685)]
def aMY:=fP "read_run" 69 mv7 357
def aOC:=tS 690 ["run_text","stride_text","low","high","run","stride","last"]
def aH5:=fY "read_strided" 70
def aFL:=cP "read_strided" 687 217 4 3 359 697
def aOQ:=fP "read_strided" 70 mv7 364
def aMC:=tS 703 ["item","low","high","parts","run"]
def aHZ:=fY "read_item" 71
def aFD:=cP "read_item" 700 224 3 3 366 708
def aNL:=fP "read_item" 71 mv7 371
def aKW:=tS 714 ["text","low","high","items","mask","place","item","told"]
def aOK:=fY "read_field" 72
def aJC:=cP "read_field" 711 232 3 3 373 722
def aNY:=fP "read_field" 72 mv7 378
def aIM:=tS 746 ["day","first"]
def aE1:=fY "weekday_at" 82
def aHD:=cP "weekday_at" 743 254 2 3 380 748
def aG6:=fP "weekday_at" 82 mv0 385
def aMH:=tS 754 ["last"]
def aNF:=fY "all_days" 83
def aK8:=cP "all_days" 751 256 1 3 387 755
def aLW:=fP "all_days" 83 mv0 392
def aLE:=tS 761 ["day","last","first","of_week"]
def aK3:=fY "nearest_work" 84
def aM1:=cP "nearest_work" 758 258 3 3 394 765
def aJA:=fP "nearest_work" 84 mv0 399
def aMI:=tS 771 ["weekday","first"]
def aIH:=fY "first_one" 85
def aMO:=cP "first_one" 768 265 2 3 401 773
def aKM:=fP "first_one" 85 mv0 406
def aF6(P:Params):=di [de P "__module__" 783 mv0,de P "__qualname__" 785 (.str "Mark" 784),de P "__firstlineno__" 787 (.int 267 786),dr P "days" 796 421,dr P "told" 803 428,dr P "__static_attributes__" 804 429] 6
def aF5:=fD 4 [(269,420),(272,427)]
def aN9:=cK "Mark" "Mark" 778 267 411 781
def aKG:=fr 413 410 mv0
def aFP:=tS 791 ["self","last","first"]
def aKJ:=fz "days" "Mark.days" (ib (tp 86) 0)
def aMV:=cO "days" "Mark.days" 788 269 3 3 415 794
def aOD:=fQ "days" "Mark.days" (ib (tp 86) 0) mv0 420
def aG2:=tS 800 ["self"]
def aIQ:=fz "told" "Mark.told" (ib (tp 86) 1)
def aMF:=cO "told" "Mark.told" 797 272 1 3 422 801
def aKB:=fQ "told" "Mark.told" (ib (tp 86) 1) mv0 427
def aEU(P:Params):=di [de P "__module__" 783 mv0,de P "__firstlineno__" 787 (.int 267 786),dr P "days" 796 421,dr P "told" 803 428,dr P "__static_attributes__" 804 429,dr P "__dict__" 806 432,dr P "__weakref__" 808 433,de P "__doc__" 809 .none] 4
def o255:Obj:=⟨(.type "type"),none,(.cls ⟨"Mark",[(.type "object")],[(r 431),(.type "object")],430,"Mark",true,[],[(r 466),(r 500),(r 533),(r 559),(r 592),(r 625)],false,none,false⟩),#[none,none,(some (.str "Mark" 776)),(some (.str "Mark" 784)),(some (.builtin "object.__new__")),(some (.bool true))]⟩
def aGX:Obj:=⟨(.type "getset_descriptor"),none,(.fields #[(.str "__dict__" 805),(r 431),(.builtin "function.__dict__"),(.builtin "function.__dict__#set")]),#[]⟩
def aIT:Obj:=⟨(.type "getset_descriptor"),none,(.fields #[(.str "__weakref__" 807),(r 431),(.builtin "ExceptionGroup.__weakref__"),.none]),#[]⟩
def aOH:=su 431 431 431
def aIV:=bm "object.__init_subclass__" (r 431)
def ahT:=tu [(r 431)]
def aJD(P:Params):=di [de P "__module__" 819 mv0,de P "__qualname__" 821 (.str "Numbers" 820),de P "__firstlineno__" 823 (.int 274 822),dr P "__init__" 831 449,dr P "days" 840 456,dr P "told" 847 463,dr P "__static_attributes__" 849 464] 7
def aN0:=fD 4 [(276,448),(279,455),(282,462)]
def aE6:=cK "Numbers" "Numbers" 814 274 439 817
def aKK:=fr 441 438 mv0
def aF0:=tS 827 ["self","mask"]
def aHN:=fz "__init__" "Numbers.__init__" (ib (tp 87) 0)
def aOO:=cO "__init__" "Numbers.__init__" 824 276 2 3 443 829
def aFX:=fQ "__init__" "Numbers.__init__" (ib (tp 87) 0) mv0 448
def aGI:=tS 835 ["self","last","first"]
def aKA:=fz "days" "Numbers.days" (ib (tp 87) 1)
def aIB:=cO "days" "Numbers.days" 832 279 3 3 450 838
def aH1:=fQ "days" "Numbers.days" (ib (tp 87) 1) mv0 455
def aHB:=tS 844 ["self"]
def aIS:=fz "told" "Numbers.told" (ib (tp 87) 2)
def aJM:=cO "told" "Numbers.told" 841 282 1 3 457 845
def aH7:=fQ "told" "Numbers.told" (ib (tp 87) 2) mv0 462
def aMX:=tS 848 ["mask"]
def aMM(P:Params):=di [de P "__module__" 819 mv0,de P "__firstlineno__" 823 (.int 274 822),dr P "__init__" 831 449,dr P "days" 840 456,dr P "told" 847 463,dr P "__static_attributes__" 849 464,de P "__doc__" 850 .none] 2
def aL3:Obj:=⟨(.type "type"),none,(.cls ⟨"Numbers",[(r 431)],[(r 466),(r 431),(.type "object")],465,"Numbers",true,[],[],false,none,false⟩),#[(some (r 436)),none,(some (.str "Numbers" 812)),(some (.str "Numbers" 820)),(some (.builtin "object.__new__")),(some (.bool true))]⟩
def aJ0:=su 466 466 466
def aH4:=bm "object.__init_subclass__" (r 466)
def aM8(P:Params):=di [de P "__module__" 860 mv0,de P "__qualname__" 862 (.str "Last" 861),de P "__firstlineno__" 864 (.int 284 863),dr P "__init__" 873 483,dr P "days" 882 490,dr P "told" 889 497,dr P "__static_attributes__" 891 498] 7
def aLR:=fD 4 [(286,482),(289,489),(294,496)]
def aGM:=cK "Last" "Last" 855 284 472 858
def aLV:=fr 474 471 mv0
def aIL:=tu [(.int 0 865)]
def aKP:=tS 869 ["self","back"]
def aFQ:=fz "__init__" "Last.__init__" (ib (tp 88) 0)
def aL5:=cO "__init__" "Last.__init__" 866 286 2 3 477 871
def aIA:=fn "__init__" "Last.__init__" (ib (tp 88) 0) 3 [] (r 476) .none .none mv0 none (r 482) .none 0
def aJF:=tS 877 ["self","last","first"]
def aH2:=fT "days" "Last.days" (ib (tp 88) 1) (ib (tp 86) 0)
def aJG:=cO "days" "Last.days" 874 289 3 3 484 880
def aJV:=fS "days" "Last.days" (ib (tp 88) 1) (ib (tp 86) 0) mv0 489
def aGH:=tS 886 ["self"]
def aIK:=fz "told" "Last.told" (ib (tp 88) 2)
def aM6:=cO "told" "Last.told" 883 294 1 3 491 887
def aGC:=fQ "told" "Last.told" (ib (tp 88) 2) mv0 496
def aMA:=tS 890 ["back"]
def aK2(P:Params):=di [de P "__module__" 860 mv0,de P "__firstlineno__" 864 (.int 284 863),dr P "__init__" 873 483,dr P "days" 882 490,dr P "told" 889 497,dr P "__static_attributes__" 891 498,de P "__doc__" 892 .none] 2
def aI9:Obj:=⟨(.type "type"),none,(.cls ⟨"Last",[(r 431)],[(r 500),(r 431),(.type "object")],499,"Last",true,[],[],false,none,false⟩),#[(some (r 469)),none,(some (.str "Last" 853)),(some (.str "Last" 861)),(some (.builtin "object.__new__")),(some (.bool true))]⟩
def aMP:=su 500 500 500
def aFB:=bm "object.__init_subclass__" (r 500)
def aKU(P:Params):=di [de P "__module__" 902 mv0,de P "__qualname__" 904 (.str "Near" 903),de P "__firstlineno__" 906 (.int 298 905),dr P "__init__" 914 516,dr P "days" 923 523,dr P "told" 930 530,dr P "__static_attributes__" 932 531] 7
def aML:=fD 4 [(300,515),(303,522),(308,529)]
def aFS:=cK "Near" "Near" 897 298 506 900
def aJ8:=fr 508 505 mv0
def aJ9:=tS 910 ["self","day"]
def aLN:=fz "__init__" "Near.__init__" (ib (tp 89) 0)
def aJ3:=cO "__init__" "Near.__init__" 907 300 2 3 510 912
def aND:=fQ "__init__" "Near.__init__" (ib (tp 89) 0) mv0 515
def aE2:=tS 918 ["self","last","first"]
def aN3:=fz "days" "Near.days" (ib (tp 89) 1)
def aFT:=cO "days" "Near.days" 915 303 3 3 517 921
def aFM:=fQ "days" "Near.days" (ib (tp 89) 1) mv0 522
def aL9:=tS 927 ["self"]
def aIU:=fT "told" "Near.told" (ib (tp 89) 2) (ib (tp 88) 2)
def aNW:=cO "told" "Near.told" 924 308 1 3 524 928
def aEN:=fS "told" "Near.told" (ib (tp 89) 2) (ib (tp 88) 2) mv0 529
def aKH:=tS 931 ["day"]
def aIZ(P:Params):=di [de P "__module__" 902 mv0,de P "__firstlineno__" 906 (.int 298 905),dr P "__init__" 914 516,dr P "days" 923 523,dr P "told" 930 530,dr P "__static_attributes__" 932 531,de P "__doc__" 933 .none] 2
def aFJ:Obj:=⟨(.type "type"),none,(.cls ⟨"Near",[(r 431)],[(r 533),(r 431),(.type "object")],532,"Near",true,[],[],false,none,false⟩),#[(some (r 503)),none,(some (.str "Near" 895)),(some (.str "Near" 903)),(some (.builtin "object.__new__")),(some (.bool true))]⟩
def aII:=su 533 533 533
def aNN:=bm "object.__init_subclass__" (r 533)
def aJQ(P:Params):=di [de P "__module__" 943 mv0,de P "__qualname__" 945 (.str "LastWork" 944),de P "__firstlineno__" 947 (.int 310 946),dr P "days" 956 549,dr P "told" 963 556,dr P "__static_attributes__" 964 557] 6
def aOS:=fD 4 [(312,548),(315,555)]
def aL0:=cK "LastWork" "LastWork" 938 310 539 941
def aN4:=fr 541 538 mv0
def aJR:=tS 951 ["self","last","first"]
def aIF:=fT "days" "LastWork.days" (ib (tp 90) 0) (ib (tp 89) 1)
def aNQ:=cO "days" "LastWork.days" 948 312 3 3 543 954
def aLP:=fS "days" "LastWork.days" (ib (tp 90) 0) (ib (tp 89) 1) mv0 548
def aL7:=tS 960 ["self"]
def aEM:=fT "told" "LastWork.told" (ib (tp 90) 1) (ib (tp 86) 1)
def aM5:=cO "told" "LastWork.told" 957 315 1 3 550 961
def aFI:=fS "told" "LastWork.told" (ib (tp 90) 1) (ib (tp 86) 1) mv0 555
def aMW(P:Params):=di [de P "__module__" 943 mv0,de P "__firstlineno__" 947 (.int 310 946),dr P "days" 956 549,dr P "told" 963 556,dr P "__static_attributes__" 964 557,de P "__doc__" 965 .none] 2
def aEX:Obj:=⟨(.type "type"),none,(.cls ⟨"LastWork",[(r 431)],[(r 559),(r 431),(.type "object")],558,"LastWork",true,[],[],false,none,false⟩),#[(some (r 536)),none,(some (.str "LastWork" 936)),(some (.str "LastWork" 944)),(some (.builtin "object.__new__")),(some (.bool true))]⟩
def aGP:=su 559 559 559
def aER:=bm "object.__init_subclass__" (r 559)
def aE5(P:Params):=di [de P "__module__" 975 mv0,de P "__qualname__" 977 (.str "Weekdays" 976),de P "__firstlineno__" 979 (.int 317 978),dr P "__init__" 987 575,dr P "days" 998 582,dr P "told" 1005 589,dr P "__static_attributes__" 1007 590] 7
def aKC:=fD 4 [(319,574),(322,581),(328,588)]
def aJN:=cK "Weekdays" "Weekdays" 970 317 565 973
def aLC:=fr 567 564 mv0
def aKN:=tS 983 ["self","mask"]
def aIR:=fT "__init__" "Weekdays.__init__" (ib (tp 91) 0) (ib (tp 87) 0)
def aH3:=cO "__init__" "Weekdays.__init__" 980 319 2 3 569 985
def aIC:=fS "__init__" "Weekdays.__init__" (ib (tp 91) 0) (ib (tp 87) 0) mv0 574
def aGO:=tS 991 ["self","last","first","weeks","week"]
def aHH:=fz "days" "Weekdays.days" (ib (tp 91) 1)
def aKF:=cO "days" "Weekdays.days" 988 322 3 3 576 996
def aJ6:=fQ "days" "Weekdays.days" (ib (tp 91) 1) mv0 581
def aE0:=tS 1002 ["self"]
def aM7:=fT "told" "Weekdays.told" (ib (tp 91) 2) (ib (tp 87) 2)
def aKZ:=cO "told" "Weekdays.told" 999 328 1 3 583 1003
def aGQ:=fS "told" "Weekdays.told" (ib (tp 91) 2) (ib (tp 87) 2) mv0 588
def aLD:=tS 1006 ["mask"]
def aK7(P:Params):=di [de P "__module__" 975 mv0,de P "__firstlineno__" 979 (.int 317 978),dr P "__init__" 987 575,dr P "days" 998 582,dr P "told" 1005 589,dr P "__static_attributes__" 1007 590,de P "__doc__" 1008 .none] 2
def aN6:Obj:=⟨(.type "type"),none,(.cls ⟨"Weekdays",[(r 431)],[(r 592),(r 431),(.type "object")],591,"Weekdays",true,[],[],false,none,false⟩),#[(some (r 562)),none,(some (.str "Weekdays" 968)),(some (.str "Weekdays" 976)),(some (.builtin "object.__new__")),(some (.bool true))]⟩
def aNS:=su 592 592 592
def aNU:=bm "object.__init_subclass__" (r 592)
def aF3(P:Params):=di [de P "__module__" 1018 mv0,de P "__qualname__" 1020 (.str "Nth" 1019),de P "__firstlineno__" 1022 (.int 330 1021),dr P "__init__" 1031 608,dr P "days" 1041 615,dr P "told" 1048 622,dr P "__static_attributes__" 1051 623] 7
def aMN:=fD 4 [(332,607),(336,614),(342,621)]
def aET:=cK "Nth" "Nth" 1013 330 598 1016
def aG0:=fr 600 597 mv0
def aNV:=tS 1026 ["self","weekday","many"]
def aFN:=fz "__init__" "Nth.__init__" (ib (tp 92) 0)
def aLF:=cO "__init__" "Nth.__init__" 1023 332 3 3 602 1029
def aFF:=fQ "__init__" "Nth.__init__" (ib (tp 92) 0) mv0 607
def aGB:=tS 1035 ["self","last","first","day"]
def aNM:=fz "days" "Nth.days" (ib (tp 92) 1)
def aOF:=cO "days" "Nth.days" 1032 336 3 3 609 1039
def aNA:=fQ "days" "Nth.days" (ib (tp 92) 1) mv0 614
def aLZ:=tS 1045 ["self"]
def aLX:=fT "told" "Nth.told" (ib (tp 92) 2) (ib (tp 88) 2)
def aIP:=cO "told" "Nth.told" 1042 342 1 3 616 1046
def aI7:=fS "told" "Nth.told" (ib (tp 92) 2) (ib (tp 88) 2) mv0 621
def aNK:=tS 1049 ["many","weekday"]
def aHA(P:Params):=di [de P "__module__" 1018 mv0,de P "__firstlineno__" 1022 (.int 330 1021),dr P "__init__" 1031 608,dr P "days" 1041 615,dr P "told" 1048 622,dr P "__static_attributes__" 1051 623,de P "__doc__" 1052 .none] 2
def aG4:Obj:=⟨(.type "type"),none,(.cls ⟨"Nth",[(r 431)],[(r 625),(r 431),(.type "object")],624,"Nth",true,[],[],false,none,false⟩),#[(some (r 595)),none,(some (.str "Nth" 1011)),(some (.str "Nth" 1019)),(some (.builtin "object.__new__")),(some (.bool true))]⟩
def aJE:=su 625 625 625
def aGV:=bm "object.__init_subclass__" (r 625)
def t1(P:Params):BT:=brn 11 [(boot_o_0 P),(boot_o_1 P),(boot_o_2 P),(o4 P),(boot_o_4 P),(boot_o_5 P),(boot_o_6 P),(boot_o_7 P),(boot_o_8 P),(boot_o_9 P),(boot_o_10 P),o0,o5,o2,o3,o0,o1,o6,o0,o7,o8,o9,o10,o11,(o12 P),o0,o1,o13,o14,o0,(o15 P),o16,o17,o18,o19,o20,o11,(o21 P),o0,o1,o22,o23,o0,(o24 P),o25,o26,o27,o20,o11,(o28 P),o0,o29,o30,o31,o0,o1,o32,o0,o33,o34,o35,o36,(o37 P),o38,o39,o40,o20,o11,(o41 P),o0,o42,o43,o44,o0,o1,o45,o0,o46,o47,o48,o49,(o50 P),o51,o52,o53,o0,o1,o54,o0,o55,o56,o57,o58,o0,o1,o59,o0,o60,o61,o62,o0,o1,o63,o0,o64,o65,o66,o0,o1,o67,o0,o68,o69,o70,o0,o1,o71,o0,o72,o73,o74,o0,o1,o75,o0,o76,o77,o78,o0,o1,o79,o80,o81,o0,o1,o82,o0,o83,o84,o85,o0,o1,o86,o0,o87,o88,o89,o0,o1,o90,o0,o91,o92,o93,o0,o1,o94,o95,o96,o0,o1,o97,o0,o98,o99,aL4,o0,o1,aNG,o0,aOG,aNH,aEZ,o0,o1,aMR,o0,aFO,aKD,aHV,o0,o1,aJO,o0,aMS,aEQ,aF4,o0,o1,aH6,o0,aLH,aN1,aGA,o0,o1,aI5,o0,aLQ,aGT,aM2,o0,o1,aOL,o0,aLJ,aNX,aE9,o0,o1,aI2,o0,aNE,aHG,aN7,o0,o1,aM4,o0,aJB,aNR,aH8,o0,o1,aGK,aKO,aJX,o0,o1,aN8,o0,aON,aKS,aHW,o0,o1,aNT,aHK,aJI,o0,o1,aGD,o0,aES,aHQ,aFY,o0,o1,aK9,aGR,aHP,o0,o1,aFC,o0,aIX,aLB,aLS,o0,o1,aKQ,o0,aJZ,aN2,aG1,o0,o1,aF8,o0,aI6,aNC,aFA,o0,o1,aLK,o0,aNP,aG3,aMD,o0,o1,aJ1,o0,aM9,aK0,aOP,o0,o1,aNI,o0,aMK,aK6,aLG,o0,o1,aJU,o0,aME,aFK,aG8,o0,o1,aG9,o0,aNO,aOE,aE3,o0,o1,aIE,o0,aLL,aJS,aOI,o0,o1,aK1,aMU,aLY,aI3,aHO,o0,o1,aFR,aKT,aHX,aHI,aMZ,o0,o1,aHU,o0,aHY,aLT,aIY,o0,o1,aI1,aGG,aEW,o0,o1,aLM,o0,aFE,aHC,aJ5,o0,o1,aL8,o0,aIJ,aKR,aGU,o0,o1,aJW,aJP,aMY,o0,o1,aOC,o0,aH5,aFL,aOQ,o0,o1,aMC,o0,aHZ,aFD,aNL,o0,o1,aKW,o0,aOK,aJC,aNY,o0,o1,aIM,o0,aE1,aHD,aG6,o0,o1,aMH,o0,aNF,aK8,aLW,o0,o1,aLE,o0,aK3,aM1,aJA,o0,o1,aMI,o0,aIH,aMO,aKM,o0,o11,(aF6 P),o0,aF5,aN9,aKG,o0,o1,aFP,o0,aKJ,aMV,aOD,o0,o1,aG2,o0,aIQ,aMF,aKB,o0,(aEU P),o255,aGX,aIT,aOH,aIV,ahT,o11,(aJD P),o0,aN0,aE6,aKK,o0,o1,aF0,o0,aHN,aOO,aFX,o0,o1,aGI,o0,aKA,aIB,aH1,o0,o1,aHB,o0,aIS,aJM,aH7,aMX,(aMM P),aL3,aJ0,aH4,ahT,o11,(aM8 P),o0,aLR,aGM,aLV,aIL,o0,o1,aKP,o0,aFQ,aL5,aIA,o0,o1,aJF,o0,aH2,aJG,aJV,o0,o1,aGH,o0,aIK,aM6,aGC,aMA,(aK2 P),aI9,aMP,aFB,ahT,o11,(aKU P),o0,aML,aFS,aJ8,o0,o1,aJ9,o0,aLN,aJ3,aND,o0,o1,aE2,o0,aN3,aFT,aFM,o0,o1,aL9,o0,aIU,aNW,aEN,aKH,(aIZ P),aFJ,aII,aNN,ahT,o11,(aJQ P),o0,aOS,aL0,aN4,o0,o1,aJR,o0,aIF,aNQ,aLP,o0,o1,aL7,o0,aEM,aM5,aFI,o0,(aMW P),aEX,aGP,aER,ahT,o11,(aE5 P),o0,aKC,aJN,aLC,o0,o1,aKN,o0,aIR,aH3,aIC,o0,o1,aGO,o0,aHH,aKF,aJ6,o0,o1,aE0,o0,aM7,aKZ,aGQ,aLD,(aK7 P),aN6,aNS,aNU,ahT,o11,(aF3 P),o0,aMN,aET,aG0,o0,o1,aNV,o0,aFN,aLF,aFF,o0,o1,aGB,o0,aNM,aOF,aNA,o0,o1,aLZ,o0,aLX,aIP,aI7,aNK,(aHA P),aG4,aJE,aGV]
def s1(w:World)(os:OsState):SharedT:=⟨t1 w.params,628,⟨[],[],[],0,[],[],false,#[],[],0,false,false,false,0,[2000,10,10],false,0,true,[],[],0,false⟩,#[],⟨0,0,0,0⟩,1055,os⟩
def l0:List Stmt:=(bi.drop 0).take 93
theorem r0(w:World)(os:OsState):
  segRunT treeTable pw w 11 an 1 4773 (s0 w os) (piecesOf l0 ev cd ⟨0,0,0,0⟩ bk) =
  some (.next,s1 w os,cd,⟨330,0,343,55⟩):=by kernel_rfl
def o383(P:Params):=di [de P "__name__" 165 mv8,de P "__doc__" 166 .none,de P "__package__" 167 .none,de P "__loader__" 168 (.builtin "__main__.__loader__#opaque"),de P "__spec__" 169 .none,dr P "__annotations__" 170 6,dr P "__builtins__" 171 4,de P "__file__" 173 (sf 172),de P "__cached__" 174 .none,dr P "_wall" 193 21,dr P "FieldError" 213 31,dr P "NoDay" 229 44,dr P "NoField" 254 63,dr P "NoRow" 279 82,dr P "is_whole" 288 91,dr P "MONTH_LASTS" 303 92,de P "ROUND_YEARS" 305 (.int 400 304),de P "ROUND_DAYS" 307 (.int 146097 306),dr P "is_long" 314 99,dr P "multiples_before" 322 106,dr P "days_before" 330 113,dr P "last_of" 338 120,dr P "is_date" 347 127,dr P "day_of" 353 132,dr P "year_of" 361 139,dr P "date_of" 371 146,dr P "weekday" 378 153,de P "FIGURES" 382 (.str "0123456789" 381),dr P "all_figures" 388 158,dr P "is_written" 395 165,de P "DAY_MINUTES" 399 (.int 1440 398),de P "HOUR_MINUTES" 401 (.int 60 400),dr P "parted" 409 172,de P "LONG_PLACE" 413 (.int 12 412),de P "LONG_LAST" 415 (.int 29 414),de P "SHORT_YEAR" 417 (.int 1 416),dr P "kind_from" 427 179,dr P "kind_of" 435 186,dr P "month_at" 444 193,dr P "next_month" 452 200,dr P "month_before" 460 207,dr P "has" 470 214,dr P "lowest" 477 221,dr P "starts_of" 483 226,dr P "end_from" 492 233,dr P "ranges_of" 498 238,dr P "shown_range" 506 245,dr P "shown_ranges" 512 250,dr P "add_stretch" 524 257,dr P "last_shut_day" 535 264,dr P "shut_end" 544 271,dr P "paper_of" 557 278,de P "MOST_MONTHS" 561 (.int 492 560),de P "MOST_MONTH_MINUTES" 563 (.int 44640 562),dr P "minutes_on" 573 285,dr P "minutes_by" 582 292,dr P "month_of" 590 299,dr P "first_at" 604 306,dr P "final_at" 618 313,dr P "next_from" 628 320,dr P "last_to" 638 327,de P "MOST_SIGNS" 642 (.int 300 641),de P "MOST_ITEMS" 644 (.int 40 643),de P "MOST_STRIDE" 646 (.int 99 645),dr P "mask_of" 655 334,dr P "numbers_in" 661 339,dr P "run_mask" 670 346,dr P "read_number" 680 353,dr P "read_run" 686 358,dr P "read_strided" 699 365,dr P "read_item" 710 372,dr P "read_field" 724 379,de P "MOST_MARKS" 728 (.int 20 727),de P "MOST_DAY" 730 (.int 31 729),de P "MOST_BACK" 732 (.int 30 731),de P "MOST_NTH" 734 (.int 5 733),de P "SUNDAY" 736 (.int 0 735),de P "SATURDAY" 738 (.int 6 737),de P "SUNDAY_TOO" 740 (.int 7 739),de P "ALL_WEEKDAYS" 742 (.int 127 741),dr P "weekday_at" 750 386,dr P "all_days" 757 393,dr P "nearest_work" 767 400,dr P "first_one" 775 407,dr P "Mark" 811 431,dr P "Numbers" 852 466,dr P "Last" 894 500,dr P "Near" 935 533,dr P "LastWork" 967 559,dr P "Weekdays" 1010 592,dr P "Nth" 1054 625,dr P "LastOne" 1095 658,dr P "any_days" 1106 667,dr P "read_day_mark" 1115 674,dr P "read_weekday" 1123 681,dr P "read_weekday_mark" 1133 688,dr P "read_items" 1150 695,dr P "read_days" 1158 702,dr P "read_weekdays" 1167 709,de P "MOST_ROW_SIGNS" 1171 (.int 1600 1170),de P "MINUTE" 1173 (.int 0 1172),de P "HOUR" 1175 (.int 1 1174),de P "DAY" 1177 (.int 2 1176),de P "MONTH" 1179 (.int 3 1178),de P "WEEKDAY" 1181 (.int 4 1180),de P "NO_PLACE" 1183 (.int 5 1182),dr P "BOUNDS" 1196 710,dr P "times_of" 1206 720,dr P "days_by" 1218 727,dr P "Row" 1320 805,dr P "read_word" 1329 816,dr P "read_at" 1337 823,dr P "read_row" 1343 828,dr P "_law_cell_at" 1353 835,dr P "_law_stir" 1362 842,dr P "_law_digits" 1373 849,dr P "_law_item" 1386 856,dr P "_law_numbers" 1403 863,dr P "_law_days" 1423 870,dr P "_law_weekdays" 1429 875,dr P "_law_spec" 1444 882,dr P "_law_start" 1451 889,dr P "_law_moment" 1462 896,dr P "_law_between" 1477 903,dr P "_law_right" 1489 910,dr P "law" 1495 915] 126
def o384:=fD 0 [(1,20),(5,27),(7,40),(9,52),(13,71),(18,90),(24,98),(26,105),(28,112),(31,119),(35,126),(39,131),(44,138),(49,145),(57,152),(61,157),(63,164),(68,171),(75,178),(78,185),(80,192),(86,199),(90,206),(95,213),(97,220),(99,225),(102,232),(107,237),(109,244),(113,249),(116,256),(121,263),(128,270),(134,277),(146,284),(151,291),(155,298),(158,305),(169,312),(180,319),(185,326),(194,333),(199,338),(201,345),(203,352),(210,357),(217,364),(224,371),(232,378),(254,385),(256,392),(258,399),(265,406),(267,413),(274,441),(284,474),(298,508),(310,541),(317,567),(330,600),(344,633),(354,666),(359,673),(371,680),(374,687),(386,694),(404,701),(411,708),(428,719),(433,726),(441,733),(492,815),(499,822),(504,827),(512,834),(516,841),(520,848),(531,855),(547,862),(557,869),(578,874),(595,881),(611,888),(613,895),(620,902),(631,909),(641,914)]
def o385:Obj:=⟨(.type "type"),none,(.cls ⟨"Mark",[(.type "object")],[(r 431),(.type "object")],430,"Mark",true,[],[(r 466),(r 500),(r 533),(r 559),(r 592),(r 625),(r 658)],false,none,false⟩),#[none,none,(some (.str "Mark" 776)),(some (.str "Mark" 784)),(some (.builtin "object.__new__")),(some (.bool true))]⟩
def o386(P:Params):=di [de P "__module__" 1062 mv0,de P "__qualname__" 1064 (.str "LastOne" 1063),de P "__firstlineno__" 1066 (.int 344 1065),dr P "__init__" 1074 641,dr P "days" 1083 648,dr P "told" 1090 655,dr P "__static_attributes__" 1092 656] 7
def o387:=fD 4 [(346,640),(349,647),(352,654)]
def o388:=cK "LastOne" "LastOne" 1057 344 631 1060
def o389:=fr 633 630 mv0
def o390:=tS 1070 ["self","weekday"]
def o391:=fz "__init__" "LastOne.__init__" (ib (tp 93) 0)
def o392:=cO "__init__" "LastOne.__init__" 1067 346 2 3 635 1072
def o393:=fQ "__init__" "LastOne.__init__" (ib (tp 93) 0) mv0 640
def o394:=tS 1078 ["self","last","first"]
def o395:=fz "days" "LastOne.days" (ib (tp 93) 1)
def o396:=cO "days" "LastOne.days" 1075 349 3 3 642 1081
def o397:=fQ "days" "LastOne.days" (ib (tp 93) 1) mv0 647
def o398:=tS 1087 ["self"]
def o399:=fT "told" "LastOne.told" (ib (tp 93) 2) (ib (tp 88) 2)
def o400:=cO "told" "LastOne.told" 1084 352 1 3 649 1088
def o401:=fS "told" "LastOne.told" (ib (tp 93) 2) (ib (tp 88) 2) mv0 654
def o402:=tS 1091 ["weekday"]
def o403(P:Params):=di [de P "__module__" 1062 mv0,de P "__firstlineno__" 1066 (.int 344 1065),dr P "__init__" 1074 641,dr P "days" 1083 648,dr P "told" 1090 655,dr P "__static_attributes__" 1092 656,de P "__doc__" 1093 .none] 2
def o404:Obj:=⟨(.type "type"),none,(.cls ⟨"LastOne",[(r 431)],[(r 658),(r 431),(.type "object")],657,"LastOne",true,[],[],false,none,false⟩),#[(some (r 628)),none,(some (.str "LastOne" 1055)),(some (.str "LastOne" 1063)),(some (.builtin "object.__new__")),(some (.bool true))]⟩
def o405:=su 658 658 658
def o406:=bm "object.__init_subclass__" (r 658)
def o407:=tS 1099 ["marks","last","first","mask","mark"]
def o408:=fY "any_days" 94
def o409:=cP "any_days" 1096 354 3 3 661 1104
def o410:=fP "any_days" 94 mv0 666
def o411:=tS 1110 ["item","back","day"]
def o412:=fY "read_day_mark" 95
def o413:=cP "read_day_mark" 1107 359 1 3 668 1113
def o414:=fP "read_day_mark" 95 mv0 673
def o415:=tS 1119 ["text","number"]
def o416:=fY "read_weekday" 96
def o417:=cP "read_weekday" 1116 371 1 3 675 1121
def o418:=fP "read_weekday" 96 mv0 680
def o419:=tS 1127 ["item","weekday","parts","many"]
def o420:=fY "read_weekday_mark" 97
def o421:=cP "read_weekday_mark" 1124 374 1 3 682 1131
def o422:=fP "read_weekday_mark" 97 mv0 687
def o423:=tS 1137 ["text","low","high","read_mark","items","mask","marks","place","item","plain","mark"]
def o424:=fY "read_items" 98
def o425:=cP "read_items" 1134 386 4 3 689 1148
def o426:=fP "read_items" 98 mv0 694
def o427:=tS 1154 ["text","read"]
def o428:=fY "read_days" 99
def o429:=cP "read_days" 1151 404 1 3 696 1156
def o430:=fP "read_days" 99 mv0 701
def o431:=tS 1162 ["text","read","mask"]
def o432:=fY "read_weekdays" 100
def o433:=cP "read_weekdays" 1159 411 1 3 703 1165
def o434:=fP "read_weekdays" 100 mv0 708
def o435:=di [⟨0,(.int 0 1184),(r 711)⟩,⟨1,(.int 1 1187),(r 712)⟩,⟨3,(.int 3 1190),(r 713)⟩] 3
def o436:=tu [(.int 0 1185),(.int 59 1186)]
def o437:=tu [(.int 0 1188),(.int 23 1189)]
def o438:=tu [(.int 1 1191),(.int 12 1192)]
def o439:=tS 1200 ["hours","minutes","times","hour"]
def o440:=fY "times_of" 110
def o441:=cP "times_of" 1197 428 2 3 714 1204
def o442:=fP "times_of" 110 mv9 719
def o443:=tS 1210 ["days","weekdays","last","first","mask","marks"]
def o444:=fY "days_by" 111
def o445:=cP "days_by" 1207 433 4 3 721 1216
def o446:=fP "days_by" 111 mv9 726
def o447(P:Params):=di [de P "__module__" 1226 mv9,de P "__qualname__" 1228 (.str "Row" 1227),de P "__firstlineno__" 1230 (.int 441 1229),dr P "__init__" 1238 741,dr P "minutes" 1245 748,dr P "hours" 1252 755,dr P "months" 1259 762,dr P "times" 1266 769,dr P "days_in" 1275 776,dr P "on_days" 1281 781,dr P "holds" 1289 788,dr P "shut_by" 1299 795,dr P "shown" 1306 802,dr P "__static_attributes__" 1313 803] 14
def o448:=fD 4 [(443,740),(451,747),(454,754),(457,761),(460,768),(463,775),(469,780),(474,787),(477,794),(490,801)]
def o449:=cK "Row" "Row" 1221 441 731 1224
def o450:=fr 733 730 mv9
def o451:=tS 1234 ["self","fields"]
def o452:=fz "__init__" "Row.__init__" (ib (tp 112) 0)
def o453:=cO "__init__" "Row.__init__" 1231 443 2 3 735 1236
def o454:=fQ "__init__" "Row.__init__" (ib (tp 112) 0) mv9 740
def o455:=tS 1242 ["self"]
def o456:=fT "minutes" "Row.minutes" (ib (tp 112) 1) (ib (tp 86) 1)
def o457:=cO "minutes" "Row.minutes" 1239 451 1 3 742 1243
def o458:=fS "minutes" "Row.minutes" (ib (tp 112) 1) (ib (tp 86) 1) mv9 747
def o459:=tS 1249 ["self"]
def o460:=fT "hours" "Row.hours" (ib (tp 112) 2) (ib (tp 86) 1)
def o461:=cO "hours" "Row.hours" 1246 454 1 3 749 1250
def o462:=fS "hours" "Row.hours" (ib (tp 112) 2) (ib (tp 86) 1) mv9 754
def o463:=tS 1256 ["self"]
def o464:=fz "months" "Row.months" (ib (tp 112) 3)
def o465:=cO "months" "Row.months" 1253 457 1 3 756 1257
def o466:=fQ "months" "Row.months" (ib (tp 112) 3) mv9 761
def o467:=tS 1263 ["self"]
def o468:=fT "times" "Row.times" (ib (tp 112) 4) (ib (tp 86) 1)
def o469:=cO "times" "Row.times" 1260 460 1 3 763 1264
def o470:=fS "times" "Row.times" (ib (tp 112) 4) (ib (tp 86) 1) mv9 768
def o471:=tS 1270 ["self","kind","month"]
def o472:=fz "days_in" "Row.days_in" (ib (tp 112) 5)
def o473:=cO "days_in" "Row.days_in" 1267 463 2 3 770 1273
def o474:=fQ "days_in" "Row.days_in" (ib (tp 112) 5) mv9 775
def o475:=fz "on_days" "Row.on_days" (ib (tp 112) 6)
def o476:=co [(.str "on_days" 1276),(.str "Row.on_days" 1277),(sf 1278),(i 469),(i 2),(i 0),(i 0),(i 3),(r 777),(.bool true),(i 181),(r 778),.none,.none,.none,(r 779),(i 1279),(i 469),(sf 1280)]
def o477:=fQ "on_days" "Row.on_days" (ib (tp 112) 6) mv9 780
def o478:=tS 1285 ["self","moment"]
def o479:=fz "holds" "Row.holds" (ib (tp 112) 7)
def o480:=cO "holds" "Row.holds" 1282 474 2 3 782 1287
def o481:=fQ "holds" "Row.holds" (ib (tp 112) 7) mv9 787
def o482:=tS 1293 ["self","moment","parts","date"]
def o483:=fz "shut_by" "Row.shut_by" (ib (tp 112) 8)
def o484:=cO "shut_by" "Row.shut_by" 1290 477 2 3 789 1297
def o485:=fQ "shut_by" "Row.shut_by" (ib (tp 112) 8) mv9 794
def o486:=tS 1303 ["self"]
def o487:=fT "shown" "Row.shown" (ib (tp 112) 9) (ib (tp 112) 3)
def o488:=cO "shown" "Row.shown" 1300 490 1 3 796 1304
def o489:=fS "shown" "Row.shown" (ib (tp 112) 9) (ib (tp 112) 3) mv9 801
def o490:=tS 1307 ["day_marks","hour_mask","minute_mask","month_mask","time_mask","weekday_marks"]
def o491(P:Params):=di [de P "__module__" 1226 mv9,de P "__firstlineno__" 1230 (.int 441 1229),dr P "__init__" 1238 741,dr P "minutes" 1245 748,dr P "hours" 1252 755,dr P "months" 1259 762,dr P "times" 1266 769,dr P "days_in" 1275 776,dr P "on_days" 1281 781,dr P "holds" 1289 788,dr P "shut_by" 1299 795,dr P "shown" 1306 802,dr P "__static_attributes__" 1313 803,dr P "__dict__" 1315 806,dr P "__weakref__" 1317 807,de P "__doc__" 1318 .none] 4
def o492:Obj:=⟨(.type "type"),none,(.cls ⟨"Row",[(.type "object")],[(r 805),(.type "object")],804,"Row",true,[],[],false,none,false⟩),#[none,none,(some (.str "Row" 1219)),(some (.str "Row" 1227)),(some (.builtin "object.__new__")),(some (.bool true))]⟩
def o493:Obj:=⟨(.type "getset_descriptor"),none,(.fields #[(.str "__dict__" 1314),(r 805),(.builtin "function.__dict__"),(.builtin "function.__dict__#set")]),#[]⟩
def o494:Obj:=⟨(.type "getset_descriptor"),none,(.fields #[(.str "__weakref__" 1316),(r 805),(.builtin "ExceptionGroup.__weakref__"),.none]),#[]⟩
def o495:=su 805 805 805
def o496:=bm "object.__init_subclass__" (r 805)
def o497:=tS 1324 ["word","place","bounds"]
def o498:=fY "read_word" 113
def o499:=cP "read_word" 1321 492 2 3 810 1327
def o500:=fP "read_word" 113 mv9 815
def o501:=tS 1333 ["word","place"]
def o502:=fY "read_at" 114
def o503:=cP "read_at" 1330 499 2 3 817 1335
def o504:=fP "read_at" 114 mv9 822
def o505:=fY "read_row" 115
def o506:=co [(.str "read_row" 1338),(.str "read_row" 1339),(sf 1340),(i 504),(i 1),(i 0),(i 0),(i 3),(r 824),(.bool true),(i 181),(r 825),.none,.none,.none,(r 826),(i 1341),(i 504),(sf 1342)]
def o507:=fP "read_row" 115 mv9 827
def o508:=tS 1349 ["_law_script","_law_k"]
def o509:=fY "_law_cell_at" 117
def o510:=cP "_law_cell_at" 1346 512 2 3 829 1351
def o511:=fP "_law_cell_at" 117 mv8 834
def o512:=tS 1357 ["_law_number","_law_first","_law_second"]
def o513:=fY "_law_stir" 118
def o514:=cP "_law_stir" 1354 516 1 3 836 1360
def o515:=fP "_law_stir" 118 mv8 841
def o516:=tS 1366 ["_law_cell","_law_sizes","_law_mixed","_law_found","_law_size"]
def o517:=fY "_law_digits" 119
def o518:=cP "_law_digits" 1363 520 3 3 843 1371
def o519:=fP "_law_digits" 119 mv8 848
def o520:=tS 1377 ["_law_parts","_law_low","_law_high","_law_form","_law_one","_law_later","_law_by"]
def o521:=fY "_law_item" 120
def o522:=cP "_law_item" 1374 531 3 3 850 1384
def o523:=fP "_law_item" 120 mv8 855
def o524:=tS 1390 ["_law_cell","_law_low","_law_high","_law_mixed","_law_size","_law_drawn","_law_texts","_law_numbers_here","_law_k","_law_text","_law_some"]
def o525:=fY "_law_numbers" 121
def o526:=cP "_law_numbers" 1387 547 4 3 857 1401
def o527:=fP "_law_numbers" 121 mv8 862
def o528:=tS 1407 ["_law_cell","_law_mixed","_law_drawn","_law_texts","_law_marks","_law_k","_law_sort","_law_form","_law_one","_law_later","_law_by","_law_text","_law_some","_law_mark"]
def o529:=fY "_law_days" 122
def o530:=cP "_law_days" 1404 557 2 3 864 1421
def o531:=fP "_law_days" 122 mv8 869
def o532:=fY "_law_weekdays" 123
def o533:=co [(.str "_law_weekdays" 1424),(.str "_law_weekdays" 1425),(sf 1426),(i 578),(i 2),(i 0),(i 0),(i 3),(r 871),(.bool true),(i 181),(r 872),.none,.none,.none,(r 873),(i 1427),(i 578),(sf 1428)]
def o534:=fP "_law_weekdays" 123 mv8 874
def o535:=tS 1433 ["_law_cells","_law_mixed","_law_minutes","_law_hours","_law_days_here","_law_months","_law_weekdays_here","_law_rare","_law_text"]
def o536:=fY "_law_spec" 124
def o537:=cP "_law_spec" 1430 595 2 3 876 1442
def o538:=fP "_law_spec" 124 mv8 881
def o539:=tS 1448 ["_law_year"]
def o540:=fY "_law_start" 125
def o541:=cP "_law_start" 1445 611 1 3 883 1449
def o542:=fP "_law_start" 125 mv8 888
def o543:=tS 1455 ["_law_cell","_law_mixed","_law_drawn","_law_year","_law_number"]
def o544:=fY "_law_moment" 126
def o545:=cP "_law_moment" 1452 613 2 3 890 1460
def o546:=fP "_law_moment" 126 mv8 895
def o547:=tS 1466 ["_law_row","_law_told","_law_cell","_law_found","_law_paper","_law_first","_law_last","_law_word","_law_here"]
def o548:=fY "_law_between" 127
def o549:=cP "_law_between" 1463 620 3 3 897 1475
def o550:=fP "_law_between" 127 mv8 902
def o551:=tS 1481 ["_law_row","_law_moment_here","_law_one","_law_other","_law_told","_law_here"]
def o552:=fY "_law_right" 128
def o553:=cP "_law_right" 1478 631 4 3 904 1487
def o554:=fP "_law_right" 128 mv8 909
def o555:=fY "law" 129
def o556:=co [(.str "law" 1490),(.str "law" 1491),(sf 1492),(i 641),(i 1),(i 0),(i 0),(i 3),(r 911),(.bool true),(i 181),(r 912),.none,.none,.none,(r 913),(i 1493),(i 641),(sf 1494)]
def o557:=fP "law" 129 mv8 914
def hL(P:Params):List Obj:=[(boot_o_0 P),(boot_o_1 P),(boot_o_2 P),(o383 P),(boot_o_4 P),(boot_o_5 P),(boot_o_6 P),(boot_o_7 P),(boot_o_8 P),(boot_o_9 P),(boot_o_10 P),o0,o384,o2,o3,o0,o1,o6,o0,o7,o8,o9,o10,o11,(o12 P),o0,o1,o13,o14,o0,(o15 P),o16,o17,o18,o19,o20,o11,(o21 P),o0,o1,o22,o23,o0,(o24 P),o25,o26,o27,o20,o11,(o28 P),o0,o29,o30,o31,o0,o1,o32,o0,o33,o34,o35,o36,(o37 P),o38,o39,o40,o20,o11,(o41 P),o0,o42,o43,o44,o0,o1,o45,o0,o46,o47,o48,o49,(o50 P),o51,o52,o53,o0,o1,o54,o0,o55,o56,o57,o58,o0,o1,o59,o0,o60,o61,o62,o0,o1,o63,o0,o64,o65,o66,o0,o1,o67,o0,o68,o69,o70,o0,o1,o71,o0,o72,o73,o74,o0,o1,o75,o0,o76,o77,o78,o0,o1,o79,o80,o81,o0,o1,o82,o0,o83,o84,o85,o0,o1,o86,o0,o87,o88,o89,o0,o1,o90,o0,o91,o92,o93,o0,o1,o94,o95,o96,o0,o1,o97,o0,o98,o99,aL4,o0,o1,aNG,o0,aOG,aNH,aEZ,o0,o1,aMR,o0,aFO,aKD,aHV,o0,o1,aJO,o0,aMS,aEQ,aF4,o0,o1,aH6,o0,aLH,aN1,aGA,o0,o1,aI5,o0,aLQ,aGT,aM2,o0,o1,aOL,o0,aLJ,aNX,aE9,o0,o1,aI2,o0,aNE,aHG,aN7,o0,o1,aM4,o0,aJB,aNR,aH8,o0,o1,aGK,aKO,aJX,o0,o1,aN8,o0,aON,aKS,aHW,o0,o1,aNT,aHK,aJI,o0,o1,aGD,o0,aES,aHQ,aFY,o0,o1,aK9,aGR,aHP,o0,o1,aFC,o0,aIX,aLB,aLS,o0,o1,aKQ,o0,aJZ,aN2,aG1,o0,o1,aF8,o0,aI6,aNC,aFA,o0,o1,aLK,o0,aNP,aG3,aMD,o0,o1,aJ1,o0,aM9,aK0,aOP,o0,o1,aNI,o0,aMK,aK6,aLG,o0,o1,aJU,o0,aME,aFK,aG8,o0,o1,aG9,o0,aNO,aOE,aE3,o0,o1,aIE,o0,aLL,aJS,aOI,o0,o1,aK1,aMU,aLY,aI3,aHO,o0,o1,aFR,aKT,aHX,aHI,aMZ,o0,o1,aHU,o0,aHY,aLT,aIY,o0,o1,aI1,aGG,aEW,o0,o1,aLM,o0,aFE,aHC,aJ5,o0,o1,aL8,o0,aIJ,aKR,aGU,o0,o1,aJW,aJP,aMY,o0,o1,aOC,o0,aH5,aFL,aOQ,o0,o1,aMC,o0,aHZ,aFD,aNL,o0,o1,aKW,o0,aOK,aJC,aNY,o0,o1,aIM,o0,aE1,aHD,aG6,o0,o1,aMH,o0,aNF,aK8,aLW,o0,o1,aLE,o0,aK3,aM1,aJA,o0,o1,aMI,o0,aIH,aMO,aKM,o0,o11,(aF6 P),o0,aF5,aN9,aKG,o0,o1,aFP,o0,aKJ,aMV,aOD,o0,o1,aG2,o0,aIQ,aMF,aKB,o0,(aEU P),o385,aGX,aIT,aOH,aIV,ahT,o11,(aJD P),o0,aN0,aE6,aKK,o0,o1,aF0,o0,aHN,aOO,aFX,o0,o1,aGI,o0,aKA,aIB,aH1,o0,o1,aHB,o0,aIS,aJM,aH7,aMX,(aMM P),aL3,aJ0,aH4,ahT,o11,(aM8 P),o0,aLR,aGM,aLV,aIL,o0,o1,aKP,o0,aFQ,aL5,aIA,o0,o1,aJF,o0,aH2,aJG,aJV,o0,o1,aGH,o0,aIK,aM6,aGC,aMA,(aK2 P),aI9,aMP,aFB,ahT,o11,(aKU P),o0,aML,aFS,aJ8,o0,o1,aJ9,o0,aLN,aJ3,aND,o0,o1,aE2,o0,aN3,aFT,aFM,o0,o1,aL9,o0,aIU,aNW,aEN,aKH,(aIZ P),aFJ,aII,aNN,ahT,o11,(aJQ P),o0,aOS,aL0,aN4,o0,o1,aJR,o0,aIF,aNQ,aLP,o0,o1,aL7,o0,aEM,aM5,aFI,o0,(aMW P),aEX,aGP,aER,ahT,o11,(aE5 P),o0,aKC,aJN,aLC,o0,o1,aKN,o0,aIR,aH3,aIC,o0,o1,aGO,o0,aHH,aKF,aJ6,o0,o1,aE0,o0,aM7,aKZ,aGQ,aLD,(aK7 P),aN6,aNS,aNU,ahT,o11,(aF3 P),o0,aMN,aET,aG0,o0,o1,aNV,o0,aFN,aLF,aFF,o0,o1,aGB,o0,aNM,aOF,aNA,o0,o1,aLZ,o0,aLX,aIP,aI7,aNK,(aHA P),aG4,aJE,aGV,ahT,o11,(o386 P),o0,o387,o388,o389,o0,o1,o390,o0,o391,o392,o393,o0,o1,o394,o0,o395,o396,o397,o0,o1,o398,o0,o399,o400,o401,o402,(o403 P),o404,o405,o406,o0,o1,o407,o0,o408,o409,o410,o0,o1,o411,o0,o412,o413,o414,o0,o1,o415,o0,o416,o417,o418,o0,o1,o419,o0,o420,o421,o422,o0,o1,o423,o0,o424,o425,o426,o0,o1,o427,o0,o428,o429,o430,o0,o1,o431,o0,o432,o433,o434,o435,o436,o437,o438,o0,o1,o439,o0,o440,o441,o442,o0,o1,o443,o0,o444,o445,o446,o0,o11,(o447 P),o0,o448,o449,o450,o0,o1,o451,o0,o452,o453,o454,o0,o1,o455,o0,o456,o457,o458,o0,o1,o459,o0,o460,o461,o462,o0,o1,o463,o0,o464,o465,o466,o0,o1,o467,o0,o468,o469,o470,o0,o1,o471,o0,o472,o473,o474,o0,o1,o475,o476,o477,o0,o1,o478,o0,o479,o480,o481,o0,o1,o482,o0,o483,o484,o485,o0,o1,o486,o0,o487,o488,o489,o490,(o491 P),o492,o493,o494,o495,o496,o0,o1,o497,o0,o498,o499,o500,o0,o1,o501,o0,o502,o503,o504,o0,o1,o505,o506,o507,o0,o1,o508,o0,o509,o510,o511,o0,o1,o512,o0,o513,o514,o515,o0,o1,o516,o0,o517,o518,o519,o0,o1,o520,o0,o521,o522,o523,o0,o1,o524,o0,o525,o526,o527,o0,o1,o528,o0,o529,o530,o531,o0,o1,o532,o533,o534,o0,o1,o535,o0,o536,o537,o538,o0,o1,o539,o0,o540,o541,o542,o0,o1,o543,o0,o544,o545,o546,o0,o1,o547,o0,o548,o549,o550,o0,o1,o551,o0,o552,o553,o554,o0,o1,o555,o556,o557]
def t2(P:Params):BT:=brn 11 (hL P)
def s2(w:World)(os:OsState):SharedT:=⟨t2 w.params,916,⟨[],[],[],0,[],[],false,#[],[],0,false,false,false,0,[2000,10,10],false,0,true,[],[],0,false⟩,#[],⟨0,0,0,0⟩,1496,os⟩
def l1:List Stmt:=(bi.drop 93).take 37
theorem r1(w:World)(os:OsState):
  segRunT treeTable pw w 11 an 1 1769 (s1 w os) (piecesOf l1 ev cd ⟨330,0,343,55⟩ bk) =
  some (.next,s2 w os,cd,⟨641,0,649,15⟩):=
 byRow2 "special-get-raises" (P:=fun w=>segRunT treeTable pw w 11 an 1 1769 (s1 w os) (piecesOf l1 ev cd ⟨330,0,343,55⟩ bk)=some (.next,s2 w os,cd,⟨641,0,649,15⟩)) (fun w=>by kernel_rfl) (fun w=>by kernel_rfl) w
def hF(P:Params):Heap:=⟨⟨hL P⟩,⟨[],[],[],0,[],[],false,#[],[],0,false,false,false,0,[2000,10,10],false,0,true,[],[],0,false⟩⟩
def sF(w:World)(os:OsState):Shared:=⟨hF w.params,#[],⟨0,0,0,0⟩,1496,os⟩
theorem fin(w:World)(os:OsState):
  topRun treeTable pw w 11 an 2 (s2 w os).abs (restOf [] ev cd ⟨641,0,649,15⟩ bk) =
  some (sF w os):=by kernel_rfl
theorem bis:bi=(l0++(l1++[])):=by kernel_rfl
theorem run(w:World)(os:OsState):topRun treeTable pw w 11 an (12+(1+(4773+(1769+(2))))) ⟨boot_heap w.params,⟨[]⟩,boot_drawn,boot_toks,os⟩ (topStub pw)=some (sF w os):=by
 refine go_top (pre w os) (piece_block (blk w os) ?_)
 rw[bis]
 exact (piece_app (segRun_of (r0 w os)) (piece_app (segRun_of (r1 w os)) (fin w os)))
theorem opn:∀w:World,(fencedOpening treeTable pw w 13206).map (fun s=>(s.heap,s.gens,s.drawn,s.toks))=some (boot_heap w.params,⟨[]⟩,boot_drawn,boot_toks):=
 boot_open (by kernel_rfl) rfl (fun s=>by kernel_rfl)
theorem siz(w:World):((boot_heap w.params).isNs mainGlobals&&(⟨[]⟩:Array GenState).size==0,(boot_heap w.params).objs.size,(boot_heap w.params).nsMap mainGlobals "__annotations__")=(true,11,an):=by kernel_rfl
end
end
theorem aK5{q:Program}{loose mods:List Str}{Xt:Shared->Bool}{s:Shared}
  (e1:seen ((recsOf q).map (·.name)) (ownsOf q) [] {s with gens:= #[]}=expectedOf q) (e2:s.heap.bltView=bltViewBooted)
  (a1:s.heap.keysOk (looseW q loose) ((recsOf q).map (·.name)) ((litsOf q).map (·.1)) ((clssOf q (looseW q loose)).map (·.name))=true)
  (a2:s.heap.accountedOkI mods=true) (a3:s.heap.isNs mainGlobals=true) (a4:s.heap.isNs builtinsNs=true)
  (a5:tablesOk q s.heap=true) (a6:Xt s=true) (a7:(s.gens.size==0)=true) (e4:tabsOk q s=true)
  (e5:pinSeenD q (drecsOf q) s=pinGoodD (drecsOf q)) (e6:plainSeenE q (looseW q loose) s=plainGoodE q (looseW q loose))
  (e7:plainSeenD q loose s=plainGoodD q loose) (e8:wideSeen q s=wideGood q) (e9:clsSeenW q loose s=clsGoodW q loose):
  openSeen q loose mods Xt true s=openGood q loose:=by
 unfold openSeen openGood
 rw[e1,e2,a1,a2,a3,a4,a5,a6,if_pos rfl,a7,e4,e5,e6,e7,e8,e9];rfl
theorem aMG{α:Type}(n:Nat){l r:List α}(h1:l.take n=r.take n)(h2:l.drop n=r.drop n):l=r:=by
 rw[←List.take_append_drop n l,h1,h2,List.take_append_drop]
noncomputable def aaL:Program:=view PySem.Challenge.pw_fivefields_k58_whole_none_between [0,2,3,4,5,7,9,10,11,12,13,14,15,16,17,18,19,20,22,23,24,26,27,28,30,31,32,33,34,35,36,37,39,40,41,42,43,44,45,47,48,49,50,52,53,54,55,56,57,58,59,60,62,63,64,65,66,67,68,69,70,71,72,74,75,76,77,78,79,80,81,82,83,84,85,86,87,88,89,90,91,92,93,94,95,96,97,98,99,100,102,103,104,105,106,107,108,109,110,111,112,113,114,115,117,118,119,120,121,122,123,124,125,126,127,128,129]
noncomputable def free:List Str:=[Str.ofString "Last",Str.ofString "BOUNDS"]
noncomputable def read:List (Str×WData):=[]
section
set_option maxHeartbeats 0
set_option maxRecDepth 100000
noncomputable section
def XT:Shared->Bool:=fun z=>xlAt aaL read z&&recOk (RowW.records (OpenRow.toRowW (OpenLaw.row PySem.Challenge.rw_fivefields_k58_whole_none_between))) z
abbrev SE(w:World)(os:OsState):=openSeen aaL free (importedModules pw.main.body) XT true (sF w os)
section
variable(w:World)(os:OsState)
theorem z1:seen ((recsOf aaL).map (·.name)) (ownsOf aaL) [] {sF w os with gens:= #[]}=expectedOf aaL:=by kernel_rfl
theorem z2:(sF w os).heap.bltView=bltViewBooted:=by kernel_rfl
theorem y1:(sF w os).heap.keysOk (looseW aaL free) ((recsOf aaL).map (·.name)) ((litsOf aaL).map (·.1)) ((clssOf aaL (looseW aaL free)).map (·.name))=true:=by kernel_rfl
theorem y2:(sF w os).heap.accountedOkI (importedModules pw.main.body)=true:=by kernel_rfl
theorem y3:(sF w os).heap.isNs mainGlobals=true:=by kernel_rfl
theorem y4:(sF w os).heap.isNs builtinsNs=true:=by kernel_rfl
theorem y5:tablesOk aaL (sF w os).heap=true:=by kernel_rfl
theorem y6:XT (sF w os)=true:=by kernel_rfl
theorem y7:((sF w os).gens.size==0)=true:=by kernel_rfl
theorem z4:tabsOk aaL (sF w os)=true:=by kernel_rfl
theorem z5:pinSeenD aaL (drecsOf aaL) (sF w os)=pinGoodD (drecsOf aaL):=by kernel_rfl
theorem z6:plainSeenE aaL (looseW aaL free) (sF w os)=plainGoodE aaL (looseW aaL free):=by kernel_rfl
theorem z7:plainSeenD aaL free (sF w os)=plainGoodD aaL free:=by kernel_rfl
theorem z8:wideSeen aaL (sF w os)=wideGood aaL:=by kernel_rfl
theorem z9:clsSeenW aaL free (sF w os)=clsGoodW aaL free:=by kernel_rfl
theorem look:SE w os=openGood aaL free:=aK5 (q:=aaL) (loose:=free) (mods:=importedModules pw.main.body) (Xt:=XT) (s:=sF w os) (z1 w os) (z2 w os) (y1 w os) (y2 w os) (y3 w os) (y4 w os) (y5 w os) (y6 w os) (y7 w os) (z4 w os) (z5 w os) (z6 w os) (z7 w os) (z8 w os) (z9 w os)
end
theorem lk0(w:World)(os:OsState):(staticsOk (importedModules pw.main.body) (boot_heap w.params) (hF w.params)&&namesBound pw (hF w.params)
  &&gensDone (sF w os)&&laidKept (boot_heap w.params) (hF w.params))=true:=by kernel_rfl
section
set_option Elab.async false
local macro_rules
  | `(tactic| o_head $H) => `(tactic| (have kk := $H; assumption))
theorem d0(h:PySem.Challenge.rw_fivefields_k58_whole_none_between.row.Holds):PySem.Challenge.rw_fivefields_k58_whole_none_between.row.Holds:=by
 w_on
 k_head
end
theorem kk(w:World)(os:OsState):((d0.heap_1 w.params).map fun p=>p.1).map (sF w os).heap.get? =(d0.heap_1 w.params).map fun p=>some p.2:=by
 iterate 3 (refine aMG 190 ?_ ?_;(· as_aux_lemma=>kernel_rfl))
 as_aux_lemma=>kernel_rfl
abbrev rR:OpenRow:=OpenLaw.row PySem.Challenge.rw_fivefields_k58_whole_none_between
def as0:List Addr:=(d0.heap_1 {strHash:=fun _=>0,shareClass:=fun _=>0,mergeTok:=fun t=>t,idOf:=fun _=>0,idOfShared:=fun _ _=>0,followText:=fun _=>true,idOfImm:=fun _=>0}).map (·.1)
theorem avM(P:Params):as0=(d0.heap_1 P).map (·.1):=by kernel_rfl
theorem lft:LeftO rR.prog aaL free XT (kHook d0.heap_1 as0 avM).obs (kHook d0.heap_1 as0 avM).val 13206:=by
 refine LeftO.of_pieces opn siz run rfl ?_
 intro w
 funext os
 refine looks_pair (lk0 w os) (looks_pair (look w os) ?_)
 show as0.map (sF w os).heap.get? =(d0.heap_1 w.params).map fun p=>some p.2
 rw[avM w.params]
 exact kk w os
theorem dS:(defOf aaL rR.name).isSome=true:=by kernel_rfl
def dL:DefRec:=((defOf aaL rR.name).get dS).1
theorem h1:defOf aaL rR.name=some (dL,[]):=by kernel_rfl
theorem h2:rR.prog.theDef rR.name=some (dL.params,dL.body,dL.scope):=by kernel_rfl
theorem h3:kwWritten? dL.params.kwonlyargs dL.params.kw_defaults=some []:=by kernel_rfl
theorem h4:dL.params.defaults=[]:=by kernel_rfl
theorem h5:dL.name="law":=by kernel_rfl
theorem h6:(!rR.writes||rR.records.isEmpty)=true:=by kernel_rfl
theorem h7:(chainsOk aaL&&opensWell rR.prog&&(frees rR.toRowW&&rR.within.isEmpty))=true:=by decide +kernel
theorem h8:rR.prog.bare:=⟨rfl,rfl,rfl,rfl,rfl,by decide +kernel⟩
theorem lst(said:rR.wellSaid=true)(hw:rR.toRowW.promised)
  (hc:WalkO aaL free (XL aaL read) (kHook d0.heap_1 as0 avM).says rR.toRowW dL [] fun f vs=>PySem.call f vs):rR.Holds:=
 holds_open (q:=aaL) (loose:=free) (Xt:=XT) (XP:=XL aaL read) lft (kHook d0.heap_1 as0 avM).of (kHook d0.heap_1 as0 avM).keeps
  (fun z y=>xl_of z (Bool.and_eq_true_iff.mp y).1) XL.keeps h1 h2 h3 (fun z y=>recFacts_of (Bool.and_eq_true_iff.mp y).2) h6 said h7 h8 hw hc
theorem agA:((recsOf aaL).find? (fun e=>e.name==Str.ofString "next_from")).isSome=true:=by kernel_rfl
theorem anC:(recsOf aaL).find? (fun e=>e.name==Str.ofString "next_from")=some (((recsOf aaL).find? (fun e=>e.name==Str.ofString "next_from")).get agA):=(Option.some_get agA).symm
theorem anE(P:Params):tabIn (d0.heap_1 P) "next_from"=some (319,315):=by kernel_rfl
theorem ao4(P:Params):(d0.heap_1 P).lookup 315=none:=by kernel_rfl
theorem akE:((recsOf aaL).find? (fun e=>e.name==Str.ofString "last_to")).isSome=true:=by kernel_rfl
theorem asL:(recsOf aaL).find? (fun e=>e.name==Str.ofString "last_to")=some (((recsOf aaL).find? (fun e=>e.name==Str.ofString "last_to")).get akE):=(Option.some_get akE).symm
theorem as3(P:Params):tabIn (d0.heap_1 P) "last_to"=some (326,322):=by kernel_rfl
theorem ar8(P:Params):(d0.heap_1 P).lookup 322=none:=by kernel_rfl
theorem tb(w:World)(h:Heap)(mean:ExcName->Option Value)(mg mb:Str->Option Value)(X:(d0.heap_1 w.params).In h)(T:Top aaL (looseW aaL free) mean mg mb h):∀b∈[315,322],(isCodeTable h b/\h.get? b=some (tabObj #[]))/\(d0.heap_1 w.params).lookup b=none:=by
 intro b hb
 simp only[List.mem_cons,List.not_mem_nil,or_false] at hb
 rcases hb with rfl | rfl
 ·obtain⟨h1,h2⟩:=tab_of T X anC (anE w.params)
  exact⟨⟨(h1.tab h2).isCodeTable,h2⟩,ao4 w.params⟩
 ·obtain⟨h1,h2⟩:=tab_of T X asL (as3 w.params)
  exact⟨⟨(h1.tab h2).isCodeTable,h2⟩,ar8 w.params⟩
theorem bi4(P:Params):nsIn (d0.heap_1 P) mainGlobals "__builtins__"=some (some (.ref 4)):=by kernel_rfl
theorem bl4(P:Params):(d0.heap_1 P).lookup 4=none:=by kernel_rfl
theorem tbm(w:World)(h:Heap)(mg:Str->Option Value)(X:(d0.heap_1 w.params).In h)(G:h.Ns mainGlobals mg):mg "__builtins__"=some (.ref 4)/\(d0.heap_1 w.params).lookup 4=none:=⟨mg_of X G (bi4 w.params),bl4 w.params⟩
end
end
end Hd
set_option Elab.async false
set_option linter.all false
set_option maxRecDepth 100000
namespace L2
open PySem PySem.Spec PyProof.Rows
abbrev FG:=PySem.W.Frag
abbrev dJ:=@wpAny_passesOwn
abbrev dM:=@wpAny_bind
abbrev dN:=@wpAny_mono
abbrev dO:=@sizeLine_eq
abbrev dP:=@wpAny_holding
abbrev dQ:=@of_decide_eq_true
abbrev dR:=@decide_eq_true
abbrev dU:=@decide_eq_true_eq
abbrev dW:=@decide_eq_false
abbrev dX:=@wpAny_Call_Name_kw
abbrev dY:=@wpAny_pure
abbrev dZ:=@wpAny_truthy_bool
abbrev aS:=@Nat.le_refl
abbrev aU:=@List.length_map
abbrev aV:=@Heap.lt_size
abbrev aW:=@List.length_append
abbrev aX:=@Int.le_refl
abbrev aY:=@Nat.ne_of_lt
abbrev aZ:=@Nat.lt_of_lt_of_le
abbrev a8:=@Heap.get?_push_of_some
abbrev a9:=@Bool.false_ne_true
abbrev bA:=@Option.some.inj
abbrev bB:=@List.mem_cons
abbrev bC:=@List.map_append
abbrev bD:=@List.map_cons
abbrev bE:=@List.getElem?_map
abbrev bF:=@Int.toNat_of_nonneg
abbrev bG:=@List.size_toArray
abbrev bH:=@Bool.and_eq_true
abbrev bI:=@Nat.le_trans
abbrev bJ:=@Int.le_of_lt
abbrev bK:=@Heap.get?_push_size
abbrev bL:=@List.mem_singleton
abbrev bM:=@List.mem_append
abbrev bN:=@List.mem_append_right
abbrev bO:=@Nat.zero_le
abbrev bP:=@List.mem_of_getElem?
abbrev bQ:=@Int.toNat_natCast
abbrev bR:=@Int.emod_nonneg
abbrev bS:=@List.mem_map
abbrev bU:=@List.length_cons
abbrev bV:=@List.length_singleton
abbrev bW:=@List.all_eq_true
abbrev bX:=@List.mem_cons_self
abbrev bY:=@List.mem_cons_of_mem
abbrev bZ:=@Int.emod_lt_of_pos
abbrev cC:=@List.map_map
abbrev cD:=@Int.le_trans
abbrev cE:=@Nat.lt_irrefl
abbrev cF:=@List.take_succ
abbrev cG:=@Int.eq_ofNat_of_zero_le
abbrev cH:=@List.any_cons
abbrev cI:=@List.append_nil
abbrev cJ:=@List.getElem?_eq_getElem
abbrev cL:=@Int.lt_or_le
abbrev cM:=@List.take_length
abbrev cN:=@List.mem_range
abbrev cQ:=@Bool.eq_iff_iff
abbrev cR:=@List.length_take
abbrev cT:=@List.flatten_cons
abbrev cU:=@List.filterMap_cons
abbrev cV:=@Int.natCast_nonneg
abbrev cW:=@List.any_eq_false
abbrev cX:=@Option.isSome_iff_exists
abbrev cY:=@List.length_replicate
abbrev cZ:=@List.lookup_cons
abbrev c5:=@Option.map_some
abbrev c7:=@Int.ediv_nonneg
abbrev c8:=@List.find?_cons
abbrev c9:=@List.cons_ne_nil
abbrev dA:=@List.getLast?_concat
abbrev dB:=@List.getElem?_eq_some_iff
abbrev dC:=@List.replicate_succ
abbrev dD:=@Nat.lt_of_le_of_lt
abbrev dE:=@List.length_range
abbrev dF:=@List.filterMap_append
abbrev dG:=@Int.lt_trichotomy
abbrev dH:=@Nat.le_of_ble_eq_true
abbrev dI:=@List.take_of_length_le
noncomputable abbrev Key:=Sum Int Str
noncomputable def amT:Key->Value->Bool
 |.inl k,v=>Value.isInt k v
 |.inr x,v=>Value.isStrOf x v
noncomputable def keyH(w:World):Key->Int
 |.inl k=>hashInt k
 |.inr x=>hashStr w x
theorem aa3:∀{k:Key} {v:Value},amT k v=true->(∃i t,k=Sum.inl i/\v=Value.int i t)∨(∃x t,k=Sum.inr x/\v=Value.str x t)
 |.inl i,v,h=>by
  obtain⟨t,e⟩:=Value.isInt_shape (k:=i) (v:=v) h
  exact .inl ⟨i,t,rfl,e⟩
 |.inr x,v,h=>by
  obtain⟨t,e⟩:=Value.isStrOf_shape (x:=x) (v:=v) h
  exact .inr ⟨x,t,rfl,e⟩
theorem avZ(i:Int)(t:Tok):amT (.inl i) (.int i t)=true:=by simp[amT,Value.isInt]
theorem awD(x:Str)(t:Tok):amT (.inr x) (.str x t)=true:=by simp[amT,Value.isStrOf]
theorem aBZ(a b:Int):decide ((Sum.inl a:Key)=Sum.inl b)=(a==b):=by
 by_cases e:a=b
 ·subst e;simp
 ·have h:¬(Sum.inl a:Key)=Sum.inl b:=fun q=>e (Sum.inl.inj q)
  rw[dW h]
  exact (beq_eq_false_iff_ne.mpr e).symm
theorem aEC(a b:Str):decide ((Sum.inr a:Key)=Sum.inr b)=decide (a=b):=by
 by_cases e:a=b
 ·subst e;simp
 ·have h:¬(Sum.inr a:Key)=Sum.inr b:=fun q=>e (Sum.inr.inj q)
  rw[dW h,dW e]
theorem aCO(a:Int)(b:Str):decide ((Sum.inl a:Key)=Sum.inr b)=false:=dW (fun q=>nomatch q)
theorem aDJ(a:Str)(b:Int):decide ((Sum.inr a:Key)=Sum.inl b)=false:=dW (fun q=>nomatch q)
noncomputable def aa6(prog:Program)(w:World):PySem.KeyKind prog w Key where
 is:=amT
 hash:=keyH w
 inj:=fun v a b ha hb=>by
  rcases aa3 ha with ⟨i,t,rfl,rfl⟩ | ⟨x,t,rfl,rfl⟩
  ·rcases aa3 hb with ⟨j,u,rfl,e⟩ | ⟨y,u,rfl,e⟩
   ·injection e with e1 _;rw[e1]
   ·exact nomatch e
  ·rcases aa3 hb with ⟨j,u,rfl,e⟩ | ⟨y,u,rfl,e⟩
   ·exact nomatch e
   ·injection e with e1 _;rw[e1]
 byValue:=fun k v h=>by
  rcases aa3 h with ⟨i,t,rfl,rfl⟩ | ⟨x,t,rfl,rfl⟩<;>rfl
 pyHash:=fun hv h=>by
  rcases aa3 hv with ⟨i,t,rfl,rfl⟩ | ⟨x,t,rfl,rfl⟩
  ·exact wpAny_pyHash_int h
  ·exact wpAny_pyHash_str h
 eqBool:=fun hu hv h=>by
  rcases aa3 hu with ⟨i,t,rfl,rfl⟩ | ⟨x,t,rfl,rfl⟩
  ·rcases aa3 hv with ⟨j,u,rfl,rfl⟩ | ⟨y,u,rfl,rfl⟩
   ·rw[aBZ] at h;exact wpAny_eqBool_int h
   ·rw[aCO] at h;exact SeqAt.EqAt.int_str i t y u _ _ _ _ h
  ·rcases aa3 hv with ⟨j,u,rfl,rfl⟩ | ⟨y,u,rfl,rfl⟩
   ·rw[aDJ] at h;exact SeqAt.EqAt.str_int x t j u _ _ _ _ h
   ·rw[aEC] at h;exact wpAny_eqBool_str h
 «strs»:=fun k x t v h=>by
  rcases aa3 h with ⟨i,u,rfl,e⟩ | ⟨y,u,rfl,e⟩
  ·exact nomatch e
  ·injection e with e1 _
   subst e1
   cases v<;>rfl
theorem aqG(prog:Program)(w:World)(i:Int)(t:Tok):(aa6 prog w).is (.inl i) (.int i t)=true:=avZ i t
theorem apQ(prog:Program)(w:World)(x:Str)(t:Tok):(aa6 prog w).is (.inr x) (.str x t)=true:=awD x t
inductive V where
 |non | bl (b:Bool) | int (i:Int) | str (x:Str) | byt (b:Array UInt8) | flt (b:UInt64) | ref (a:Addr) | ty (n:String)
 deriving DecidableEq
noncomputable def RelV:V->Value->Prop
 |.non,u=>u=Value.none
 |.bl b,u=>u=Value.bool b
 |.int i,u=>∃t,u=Value.int i t
 |.str x,u=>∃t,u=Value.str x t
 |.byt b,u=>∃t,u=Value.bytes b t
 |.flt b,u=>∃t,u=Value.float b t
 |.ref a,u=>u=Value.ref a
 |.ty n,u=>u=Value.type n
noncomputable abbrev Vals:List V->List Value->Prop:=Paired RelV
theorem Vals.length{xs:List V}{us:List Value}(r:Vals xs us):xs.length=us.length:=Paired.length r
theorem Vals.get:∀{xs:List V} {us:List Value} {i:Nat} {x:V},Vals xs us->xs[i]? =some x->∃u,us[i]? =some u/\RelV x u
 |_,_,_,_,.nil,e=>by simp at e
 |_,_,0,_,.cons r _,e=>by simp at e;subst e;exact⟨_,rfl,r⟩
 |_,_,i+1,x,.cons _ t,e=>by
  obtain⟨u,h1,h2⟩:=Vals.get (i:=i) (x:=x) t (by simpa using e)
  exact⟨u,by simpa using h1,h2⟩
theorem Vals.set{x:V}{u:Value}(r:RelV x u):∀{xs:List V} {us:List Value} (i:Nat),Vals xs us->Vals (xs.set i x) (us.set i u)
 |_,_,_,.nil=>.nil
 |_,_,0,.cons _ t=>.cons r t
 |_,_,i+1,.cons q t=>.cons q (Vals.set r i t)
theorem Vals.append:∀{xs ys:List V} {us ws:List Value},Vals xs us->Vals ys ws->Vals (xs++ys) (us++ws)
 |_,_,_,_,.nil,s=>s
 |_,_,_,_,.cons r t,s=>.cons r (Vals.append t s)
theorem Vals.take:∀{xs:List V} {us:List Value} (n:Nat),Vals xs us->Vals (xs.take n) (us.take n)
 |_,_,0,_=>.nil
 |_,_,_+1,.nil=>.nil
 |_,_,n+1,.cons r t=>.cons r (Vals.take n t)
theorem Vals.drop:∀{xs:List V} {us:List Value} (n:Nat),Vals xs us->Vals (xs.drop n) (us.drop n)
 |_,_,0,r=>r
 |_,_,_+1,.nil=>.nil
 |_,_,n+1,.cons _ t=>Vals.drop n t
noncomputable def RelO:Option V->Option Value->Prop
 |some v,some u=>RelV v u
 |none,none=>True
 |_,_=>False
noncomputable def KV{κ:Type}:List (κ×V)->List (κ×Value)->Prop:=Paired fun (p:κ×V) (q:κ×Value)=>p.1=q.1/\RelV p.2 q.2
noncomputable def kV:Key->V
 |.inl i=>.int i
 |.inr x=>.str x
inductive HO where
 |lst (xs:List V)
 |tup (xs:List V)
 |dK (kvs:List (Key×V)) | dT (kvs:List (List Key×V))
 |set (S:Int->Bool) (n:Nat)
 |ins (C dx:Addr) (fs:List (Str×V))
 |own (x:Addr)
 |xd (fs:List (Str×V))
 |met (f x:Addr)
 |rng (lo hi:Int)
 |frz (o:Obj) (u:HO)
 |tbl (ps:Array Value)
 |ext (φ:Heap->Prop)
noncomputable abbrev Hp:=Addr->Option HO
noncomputable def upd(H:Hp)(a:Addr)(o:HO):Hp:=fun b=>if b=a then some o else H b
theorem aaA{H:Hp}{a:Addr}{o:HO}:upd H a o a=some o:=by unfold upd;rw[if_pos rfl]
theorem aaF{H:Hp}{a b:Addr}{o:HO}(h:b≠a):upd H a o b=H b:=by unfold upd;rw[if_neg h]
theorem aOR{H:Hp}{a b:Addr}{o u:HO}(h:H a=some o)(h':H b=some u)(d:o≠u):a≠b:=by
 intro e;subst e;rw[h] at h';exact d (bA h')
theorem aaI{H:Hp}{a b:Addr}{o:HO}(h:H a=some o)(h':H b=none):a≠b:=by
 intro e;subst e;rw[h] at h';cases h'
section
variable(P:Program)(w:World)
noncomputable def ObjOk(H:Hp)(h:Heap)(a:Addr):HO->Prop
 |.lst xs=>xs.length<=sizeLine/\∃(its:List Value) (n:Nat),Vals xs its/\h.get? a=some {cls:=.type "list",data:=.seq its.toArray n}
 |.tup xs=>xs.length<=sizeLine/\∃its:List Value,Vals xs its/\IsTup h a its.toArray
 |.dK kvs=>kvs.length<=sizeLine/\(a==sysModules)=false/\∃vs,KV kvs vs/\h.DictOf (aa6 P w) a vs
 |.dT kvs=>kvs.length<=sizeLine/\(a==sysModules)=false/\∃xs:List (List Key×Addr×Value),
   Paired (fun (p:List Key×V) (q:List Key×Addr×Value)=>p.1=q.1/\H q.2.1=some (.tup (p.1.map kV))/\RelV p.2 q.2.2) kvs xs/\
   ∃o es ep,h.get? a=some o/\o.ExactDict/\o.data=.dict es ep/\es.toList=xs.map (entryOfKey (tupleKind (aa6 P w)))/\(xs.map (·.1)).Nodup
 |.set S n=>h.SetOf (intKind P w) a S n
 |.ins C dx fs=>H dx=some (.own a)/\fs.length<=1000/\dx≠a/\h.get? a=some (PySem.W.instObj C dx)/\
   ∃mA,h.Ns1 dx mA/\(∀f,RelO (fs.lookup f) (mA f))/\PySem.Within mA (fs.map (·.1))
 |.own _=>∃o,h.get? a=some o
 |.xd fs=>∃mA,h.Ns1 a mA/\∀f,RelO (fs.lookup f) (mA f)
 |.rng lo hi=>∃t u v,h.get? a=some {cls:=.type "range",data:=.fields #[.int lo t,.int hi u,.int 1 v]}
 |.frz o u=>h.get? a=some o/\ObjOk H h a u
 |.tbl ps=>h.get? a=some {cls:=.none,data:=.fields ps}
 |.met f x=>h.get? a=some (PySem.W.methodObj (.ref f) (.ref x))
 |.ext φ=>φ h/\(∃o,h.get? a=some o)/\∀h1 h2:Heap,φ h1->(∀o,h1.get? a=some o->h2.get? a=some o)->φ h2
noncomputable def HOk(H:Hp)(h:Heap):Prop:=∀a o,H a=some o->ObjOk P w H h a o
end
section
variable{P:Program}{w:World}{H H':Hp}{h h':Heap}{a:Addr}{o:HO}
theorem ObjOk.lt(x:ObjOk P w H h a o):a<h.objs.size:=by
 cases o with
 |lst xs=>obtain⟨_,_,_,_,e⟩:=x;exact aV e
 |tup xs=>obtain⟨_,_,_,p⟩:=x;exact p.lt
 |dK kvs=>obtain⟨_,_,_,_,o,_,_,e,_⟩:=x;exact aV e
 |dT kvs=>obtain⟨_,_,_,_,o,_,_,e,_⟩:=x;exact aV e
 |set S n=>obtain⟨o,_,_,_,e,_⟩:=x;exact aV e
 |ins C dx fs=>obtain⟨_,_,_,e,_⟩:=x;exact aV e
 |own y=>obtain⟨_,e⟩:=x;exact aV e
 |xd fs=>obtain⟨_,⟨_,_,_,e,_⟩,_⟩:=x;exact aV e
 |rng lo hi=>obtain⟨_,_,_,e⟩:=x;exact aV e
 |frz ob u=>obtain⟨e,_⟩:=x;exact aV e
 |tbl ps=>exact aV (show h.get? a=some _ from x)
 |met f y=>exact aV (show h.get? a=some _ from x)
 |ext φ=>obtain⟨_,⟨_,e⟩,_⟩:=x;exact aV e
theorem Paired.mapP{α β:Type}{F G:α->β->Prop}:∀{l₁:List α} {l₂:List β},Paired F l₁ l₂->(∀a b,F a b->G a b)->Paired G l₁ l₂
 |_,_,.nil,_=>.nil
 |_,_,.cons r t,f=>.cons (f _ _ r) (Paired.mapP t f)
theorem Paired.imp'{α β:Type}{F G:α->β->Prop}(f:∀a b,F a b->G a b){l₁:List α}{l₂:List β}(r:Paired F l₁ l₂):Paired G l₁ l₂:=Paired.mapP r f
theorem ObjOk.stay(x:ObjOk P w H h a o)(k:∀b u,(b=a∨H b=some (.own a))->h.get? b=some u->h'.get? b=some u)
  (ho:∀b,H b=some (.own a)->H' b=some (.own a)) (ht:∀b xs,H b=some (.tup xs)->H' b=some (.tup xs)):ObjOk P w H' h' a o:=by
 induction o with
 |lst xs=>obtain⟨z,its,n,r,e⟩:=x;exact⟨z,its,n,r,k _ _ (.inl rfl) e⟩
 |tup xs=>obtain⟨z,its,r,ob,e,c⟩:=x;exact⟨z,its,r,ob,k _ _ (.inl rfl) e,c⟩
 |dK kvs=>obtain⟨z,y,vs,r,ob,es,ep,e,c⟩:=x;exact⟨z,y,vs,r,ob,es,ep,k _ _ (.inl rfl) e,c⟩
 |dT kvs=>
  obtain⟨z,y,xs,r,ob,es,ep,e,c⟩:=x
  exact⟨z,y,xs,Paired.mapP r fun p q z=>⟨z.1,ht _ _ z.2.1,z.2.2⟩,ob,es,ep,k _ _ (.inl rfl) e,c⟩
 |set S n=>obtain⟨ob,es,ep,t,e,c⟩:=x;exact⟨ob,es,ep,t,k _ _ (.inl rfl) e,c⟩
 |ins C dx fs=>
  obtain⟨d,z,ne,e,mA,⟨od,es,ep,e2,c⟩,r⟩:=x
  exact⟨ho _ d,z,ne,k _ _ (.inl rfl) e,mA,⟨od,es,ep,k _ _ (.inr d) e2,c⟩,r⟩
 |own y=>obtain⟨ob,e⟩:=x;exact⟨ob,k _ _ (.inl rfl) e⟩
 |xd fs=>obtain⟨mA,⟨od,es,ep,e,c⟩,r⟩:=x;exact⟨mA,⟨od,es,ep,k _ _ (.inl rfl) e,c⟩,r⟩
 |rng lo hi=>obtain⟨t,u,v,e⟩:=x;exact⟨t,u,v,k _ _ (.inl rfl) e⟩
 |frz ob u ih=>obtain⟨e,q⟩:=x;exact⟨k _ _ (.inl rfl) e,ih q⟩
 |tbl ps=>
  have e:h.get? a=some {cls:=.none,data:=.fields ps}:=x
  show h'.get? a=some {cls:=.none,data:=.fields ps}
  exact k a _ (.inl rfl) e
 |met f y=>
  have e:h.get? a=some (PySem.W.methodObj (.ref f) (.ref y)):=x
  show h'.get? a=some (PySem.W.methodObj (.ref f) (.ref y))
  exact k a _ (.inl rfl) e
 |ext φ=>obtain⟨p,⟨o,e⟩,st⟩:=x;exact⟨st _ _ p fun o q=>k _ _ (.inl rfl) q,⟨o,k _ _ (.inl rfl) e⟩,st⟩
theorem HOk.lt(x:HOk P w H h)(e:H a=some o):a<h.objs.size:=(x a o e).lt
theorem HOk.fresh(x:HOk P w H h)(e:h.objs.size<=a):H a=none:=by
 cases q:H a with
 |none=>rfl
 |some u=>exact absurd (aZ (x.lt q) e) (cE _)
theorem HOk.kept(x:HOk P w H h)(k:∀b u,h.get? b=some u->h'.get? b=some u):HOk P w H h':=fun a o e=>
 (x a o e).stay (fun b u _ q=>k b u q) (fun _ q=>q) fun _ _ q=>q
theorem HOk.laid(x:HOk P w H h)(k:∀b u,h.get? b=some u->h'.get? b=some u)(hp:h.objs.size<=a)(new:ObjOk P w (upd H a o) h' a o):HOk P w (upd H a o) h':=fun b u e=>by
 have hn:=x.fresh hp
 by_cases hb:b=a
 ·subst hb;rw[aaA] at e;cases e;exact new
 ·rw[aaF hb] at e
  exact (x b u e).stay (fun c v _ q=>k c v q) (fun c q=>by rw[aaF (aaI q hn)];exact q) fun c xs q=>by rw[aaF (aaI q hn)];exact q
end
noncomputable def Rd(H:Hp)(a:Addr)(u:HO):Prop:=H a=some u∨∃o,H a=some (.frz o u)
theorem Rd.ok{P:Program}{w:World}{H:Hp}{h:Heap}{a:Addr}{u:HO}(r:Rd H a u)(x:HOk P w H h):ObjOk P w H h a u:=by
 rcases r with r | ⟨o,r⟩
 ·exact x a u r
 ·obtain⟨_,q⟩:=x a _ r
  exact q
noncomputable def Mut:Option HO->Prop
 |some (.lst _)=>True
 |some (.dK _)=>True
 |some (.dT _)=>True
 |some (.set _ _)=>True
 |some (.ins _ _ _)=>True
 |some (.ext _)=>True
 |_=>False
section
variable{P:Program}{w:World}{H:Hp}{h h':Heap}{x e:Addr}{o':HO}
theorem HOk.write(ok:HOk P w H h)(mu:Mut (H x))(he:e=x∨H e=some (.own x))(k:∀b u,b≠e->h.get? b=some u->h'.get? b=some u)(heo:∃u,h'.get? e=some u)
  (new:ObjOk P w (upd H x o') h' x o'):HOk P w (upd H x o') h':=fun b u q=>by
 have nown:∀c y,H c=some (.own y)->c≠x:=fun c y r z=>by subst z;rw[r] at mu;exact mu
 have ntup:∀c xs,H c=some (.tup xs)->c≠x:=fun c xs r z=>by subst z;rw[r] at mu;exact mu
 by_cases hb:b=x
 ·subst hb;rw[aaA] at q;cases q;exact new
 ·rw[aaF hb] at q
  by_cases hbe:b=e
  ·have q':H b=some (.own x):=by
    rcases he with z | z
    ·exact absurd (hbe.trans z) hb
    ·rw[hbe];exact z
   rw[q] at q';cases q'
   obtain⟨v,hv⟩:=heo
   exact⟨v,by rw[hbe];exact hv⟩
  ·refine (ok b u q).stay (fun c v hc r=>k c v ?_ r) (fun c r=>by rw[aaF (nown c b r)];exact r) fun c xs r=>by rw[aaF (ntup c xs r)];exact r
   rcases hc with rfl | hc
   ·exact hbe
   ·rintro rfl
    rcases he with z | z
    ·exact nown c b hc z
    ·rw[hc] at z;cases z;exact hb rfl
end
structure Un(fs ex:List Addr)(H H':Hp)(h h':Heap):Prop where
 keep:∀b o,h.get? b=some o->H b=none->b∉fs->b∉ex->h'.get? b=some o
 slot:∀b o,h.get? b=some o->H b=none->b∈fs->b∉ex->∃sl,h'.get? b=some {o with slots:=sl}
 free:∀b o,h.get? b=some o->H b=none->b∉ex->H' b=none
 there:∀b o,h.get? b=some o->b∉ex->∃o',h'.get? b=some o'
 tups:∀b xs,H b=some (.tup xs)->H' b=some (.tup xs)
 frzs:∀b o u,H b=some (.frz o u)->H' b=some (.frz o u)
 tbls:∀b ps,H b=some (.tbl ps)->∃more,H' b=some (.tbl (ps++more))
section
variable{fs fs' ex ex':List Addr}{H H1 H2:Hp}{h h1 h2 h':Heap}{a x e:Addr}{o:HO}
theorem Un.any(u:Un fs ex H H1 h h1){b:Addr}{ob:Obj}(q:h.get? b=some ob)(n:H b=none)(hx:b∉ex):∃sl,h1.get? b=some {ob with slots:=sl}:=by
 by_cases hb:b∈fs
 ·exact u.slot b ob q n hb hx
 ·exact⟨ob.slots,u.keep b ob q n hb hx⟩
theorem Un.trans(a:Un fs ex H H1 h h1)(b:Un fs ex H1 H2 h1 h2):Un fs ex H H2 h h2 where
 keep:=fun c ob q n hc hx=>b.keep c ob (a.keep c ob q n hc hx) (a.free c ob q n hx) hc hx
 slot:=fun c ob q n hc hx=>by
  obtain⟨sl,e1⟩:=a.slot c ob q n hc hx
  obtain⟨sl',e2⟩:=b.slot c _ e1 (a.free c ob q n hx) hc hx
  exact⟨sl',e2⟩
 free:=fun c ob q n hx=>by
  obtain⟨o',e1⟩:=a.there c ob q hx
  exact b.free c o' e1 (a.free c ob q n hx) hx
 there:=fun c ob q hx=>by
  obtain⟨o',e1⟩:=a.there c ob q hx
  exact b.there c o' e1 hx
 tups:=fun c xs q=>b.tups c xs (a.tups c xs q)
 frzs:=fun c ob xs q=>b.frzs c ob xs (a.frzs c ob xs q)
 tbls:=fun c ps q=>by
  obtain⟨m1,e1⟩:=a.tbls c ps q
  obtain⟨m2,e2⟩:=b.tbls c _ e1
  exact⟨m1++m2,by rw[e2,Array.append_assoc]⟩
theorem Un.kept(k:∀b u,h.get? b=some u->h'.get? b=some u):Un fs ex H H h h':=
 ⟨fun b ob q _ _ _=>k b ob q,fun b ob q _ _ _=>⟨ob.slots,k b ob q⟩,fun _ _ _ n _=>n,fun b ob q _=>⟨ob,k b ob q⟩,fun _ _ q=>q,fun _ _ _ q=>q,fun _ ps q=>⟨#[],by rw[q];simp⟩⟩
theorem Un.refl:Un fs ex H H h h:=Un.kept fun _ _ q=>q
theorem Un.laid(k:∀b u,h.get? b=some u->h'.get? b=some u)(hp:h.objs.size<=a)(hn:H a=none):Un fs ex H (upd H a o) h h' where
 keep:=fun b u q _ _ _=>k b u q
 slot:=fun b u q _ _ _=>⟨u.slots,k b u q⟩
 free:=fun b u q n _=>by rw[aaF (aY (aZ (aV q) hp))];exact n
 there:=fun b u q _=>⟨u,k b u q⟩
 tups:=fun b xs q=>by rw[aaF (aaI q hn)];exact q
 frzs:=fun b u xs q=>by rw[aaF (aaI q hn)];exact q
 tbls:=fun b ps q=>⟨#[],by rw[aaF (aaI q hn),q];simp⟩
theorem Un.write(mu:Mut (H x))(he:e=x∨H e=some (.own x))(k:∀b u,b≠e->h.get? b=some u->h'.get? b=some u)(heo:∃u,h'.get? e=some u):Un fs ex H (upd H x o) h h':=by
 have hx:∀b,H b=none->b≠x:=fun b n z=>by subst z;rw[n] at mu;exact mu
 have hb:∀b,H b=none->b≠e:=fun b n z=>by
  subst z
  rcases he with r | r
  ·exact hx b n r
  ·rw[n] at r;cases r
 have hm:∀b u,H b=some u->¬Mut (some u)->b≠x:=fun b u q nm z=>by subst z;rw[q] at mu;exact nm mu
 refine⟨fun b u q n _ _=>k b u (hb b n) q,fun b u q n _ _=>⟨u.slots,k b u (hb b n) q⟩,fun b u q n _=>by rw[aaF (hx b n)];exact n,fun b u q _=>?_,
  fun b xs q=>by rw[aaF (hm b _ q fun z=>z)];exact q,fun b u xs q=>by rw[aaF (hm b _ q fun z=>z)];exact q,fun b ps q=>⟨#[],by rw[aaF (hm b _ q fun z=>z),q];simp⟩⟩
 by_cases hbe:b=e
 ·subst hbe;exact heo
 ·exact⟨u,k b u hbe q⟩
end
noncomputable def trk(h:Heap)(H:Hp):List Addr:=(List.range h.objs.size).filter fun a=>(H a).isSome
noncomputable def anA(h:Heap)(H:Hp):Heap:=PySem.W.hideAll h (trk h H)
theorem avT(h:Heap)(H:Hp):(anA h H).objs.size=h.objs.size:=PySem.W.hideAll_size _ _
theorem axX{h:Heap}{H:Hp}{b:Addr}{o:Obj}(e:h.get? b=some o)(n:H b=none):(anA h H).get? b=some o:=
 PySem.W.hideAll_get _ e fun hm=>by
  have q:(H b).isSome=true:=(List.mem_filter.mp hm).2
  rw[n] at q;simp at q
theorem ayZ{h:Heap}{H:Hp}{b:Addr}{o:Obj}(e:(anA h H).get? b=some o):h.get? b=some o/\H b=none:=by
 have e':h.get? b=some o:=PySem.W.of_hideAll (trk h H) e
 refine⟨e',?_⟩
 cases q:H b with
 |none=>rfl
 |some x=>
  have hm:b∈trk h H:=List.mem_filter.mpr ⟨cN.mpr (aV e'),by simp[q]⟩
  have z:(anA h H).get? b=none:=PySem.W.hideAll_none (trk h H) hm
  rw[z] at e;cases e
structure Mod(K:FG)(mg:Str->Option Value)(base:Heap):Prop where
 kin:K.In base
 glob:base.Ns mainGlobals mg
 blt:∃mb,base.Ns builtinsNs mb/\∀x:Str,x≠"__name__"->mb x=bootBuiltins x
 nolimit:base.NoLimit
structure Cx where
 prog:Program
 w:World
 K:FG
 mg:Str->Option Value
 base:Heap
 A:Around
 N:List Str
 s₀:Shared
 H₀:Hp
 env:Env
 outer:List Env
 stack:List Env
 ex:List Addr
 fn:Str->Bool
 calm:Bool
 pn:List (Addr×Obj)
 xe:Value->Shared->Prop
noncomputable def frs(l:List Env):List Addr:=l.filterMap (·.frame)
noncomputable abbrev Cx.fs(X:Cx):List Addr:=frs X.outer
noncomputable def Vis(sc:Scope)(x:Str):Prop:=sc.names.lookup x=some .local∨sc.names.lookup x=some .cell∨sc.names.lookup x=some .free
noncomputable def Loc(sc:Scope)(x:Str):Prop:=sc.names.lookup x=some .local∨sc.names.lookup x=some .cell
noncomputable def Look(env:Env)(h:Heap)(m:Str->Option Value)(x:Str)(u:Value):Prop:=
 (env.kindOf x=some .local/\m x=some u)∨((env.kindOf x=some .cell∨env.kindOf x=some .free)/\∃c,env.cells.lookup x=some c/\h.IsCell c (some u))
structure Cx.Ok(X:Cx):Prop where
 mod:Mod X.K X.mg X.base
 kind:X.env.scope.kind=.function
 glob:X.env.globals=mainGlobals
 blt:X.env.builtins=builtinsNs
 above:X.s₀.heap.objs.size<=X.env.locals
 inj:∀x y c,X.env.cells.lookup x=some c->X.env.cells.lookup y=some c->x=y
 has:∀x,(X.env.kindOf x=some .cell∨X.env.kindOf x=some .free)->∃c,X.env.cells.lookup x=some c
 cab:∀x c,X.fn x=true->X.env.cells.lookup x=some c->X.s₀.heap.objs.size<=c
 hd:X.calm=true->X.A.handled=none
 frames:X.A.frames=some X.stack
 stk:X.stack=X.outer∨(X.stack=X.env::X.outer/\X.env.frame=some X.env.locals)
 exf:∀b∈X.ex,b≠X.env.locals/\∀x c,X.env.cells.lookup x=some c->c≠b
 bs:∀b o,X.base.get? b=some o->X.s₀.heap.get? b=some o/\X.H₀ b=none
 bsz:X.base.objs.size<=X.s₀.heap.objs.size
 noex:∀b o,X.base.get? b=some o->b∉X.ex
 exfs:∀b∈X.ex,b∉X.fs
 funs:X.s₀.heap.FunFrames X.base X.outer
 frf:∀b∈X.fs,X.H₀ b=none
structure Inv(X:Cx)(pins:List (Addr×Obj))(σ:List (Option V))(H:Hp)(s:Shared):Prop where
 ok:X.Ok
 os:s.os=X.s₀.os
 bare:AllBare s.gens
 base:Un X.fs X.ex X.H₀ H X.s₀.heap s.heap
 loc:∃m,s.heap.Ns X.env.locals m/\∀(i:Nat) (x:Str) (v:V),X.N[i]? =some x->σ[i]? =some (some v)->Vis X.env.scope x->∃u,RelV v u/\Look X.env s.heap m x u
 cell:∀x c,X.env.cells.lookup x=some c->∃v,s.heap.IsCell c v
 free:H X.env.locals=none
 freeC:∀x c,X.env.cells.lookup x=some c->H c=none
 pin:∀p∈X.pn++pins,s.heap.get? p.1=some p.2/\H p.1=none/\p.1≠X.env.locals/\p.1∉X.fs/\∀v,p.2.data≠ .cell v
 hok:HOk X.prog X.w H s.heap
 len:σ.length=X.N.length
section
variable{X:Cx}{pins:List (Addr×Obj)}{σ:List (Option V)}{H H':Hp}{s:Shared}{h':Heap}
theorem Cx.Ok.nofr(ok:X.Ok){b:Addr}{o:Obj}(e:X.base.get? b=some o):b∉X.fs:=fun hb=>by
 have:=(ok.funs.mem hb).1
 rw[e] at this;cases this
theorem Inv.bs(I:Inv X pins σ H s):∀b o,X.base.get? b=some o->s.heap.get? b=some o/\H b=none:=fun b o e=>
 ⟨I.base.keep b o (I.ok.bs b o e).1 (I.ok.bs b o e).2 (I.ok.nofr e) (I.ok.noex b o e),I.base.free b o (I.ok.bs b o e).1 (I.ok.bs b o e).2 (I.ok.noex b o e)⟩
theorem Inv.bk(I:Inv X pins σ H s):∀b o,X.base.get? b=some o->s.heap.get? b=some o:=fun b o e=>(I.bs b o e).1
theorem Inv.mod(I:Inv X pins σ H s):Mod X.K X.mg X.base:=I.ok.mod
theorem Inv.kIn(I:Inv X pins σ H s):X.K.In s.heap:=I.ok.mod.kin.keeps I.bk
theorem Inv.nolimit(I:Inv X pins σ H s):s.heap.NoLimit:=I.ok.mod.nolimit.keeps I.bk
theorem Inv.lt(I:Inv X pins σ H s):X.env.locals<s.heap.objs.size:=let ⟨_,hn,_⟩:=I.loc;hn.lt
theorem Inv.sz(I:Inv X pins σ H s):X.s₀.heap.objs.size<=s.heap.objs.size:=bI I.ok.above (Nat.le_of_lt I.lt)
theorem Inv.nofs(I:Inv X pins σ H s){a:Addr}(h:s.heap.objs.size<=a):a∉X.fs:=fun hb=>by
 obtain⟨_,o,ho,_⟩:=I.ok.funs.mem hb
 exact absurd (aZ (aV ho) (bI I.sz h)) (cE _)
theorem Inv.cne(I:Inv X pins σ H s):∀x c,X.env.cells.lookup x=some c->c≠X.env.locals:=fun x c e z=>by
 obtain⟨v,o,ho,hd⟩:=I.cell x c e
 obtain⟨m,⟨o',es,ep,ho',hd',_⟩,_⟩:=I.loc
 rw[z,ho'] at ho;cases ho;rw[hd'] at hd;cases hd
theorem Inv.funs(I:Inv X pins σ H s):s.heap.FunFrames X.base X.outer:=by
 have all:∀(l:List Env),(∀b∈frs l,b∈X.fs)->X.s₀.heap.FunFrames X.base l->s.heap.FunFrames X.base l:=by
  intro l
  induction l with
  |nil=>intro _ _;trivial
  |cons env r ih=>
   intro hs hl
   obtain⟨hk,⟨L,o,hf,hn,ho,hd⟩,hr⟩:=hl
   have hL:L∈X.fs:=hs L (by unfold frs;rw[cU,hf];exact bX)
   obtain⟨sl,e⟩:=I.base.slot L o ho (I.ok.frf L hL) hL fun z=>I.ok.exfs L z hL
   exact⟨hk,⟨L,_,hf,hn,e,hd⟩,ih (fun b hb=>hs b (by unfold frs;rw[cU,hf];exact bY _ hb)) hr⟩
 exact all X.outer (fun _ hb=>hb) I.ok.funs
theorem Inv.stack(I:Inv X pins σ H s):s.heap.FunFrames X.base X.stack:=by
 rcases I.ok.stk with e | ⟨e,hf⟩
 ·rw[e];exact I.funs
 ·rw[e]
  obtain⟨m,hn,_⟩:=I.loc
  refine .cons (by rw[I.ok.kind];decide) hf hn ?_ I.funs
  exact Heap.get?_none_of_le (bI I.ok.bsz I.ok.above)
theorem Inv.stkSub(I:Inv X pins σ H s):∀b∈frs X.stack,b∈X.env.locals::X.fs:=fun b hb=>by
 rcases I.ok.stk with e | ⟨e,hf⟩
 ·rw[e] at hb;exact bY _ hb
 ·rw[e] at hb
  unfold frs at hb
  rw[cU,hf] at hb
  exact hb
theorem Inv.stkFree(I:Inv X pins σ H s):∀b∈frs X.stack,H b=none:=fun b hb=>by
 rcases bB.mp (I.stkSub b hb) with e | hb
 ·rw[e];exact I.free
 ·obtain⟨_,o,ho,_⟩:=I.ok.funs.mem hb
  exact I.base.free b o ho (I.ok.frf b hb) fun z=>I.ok.exfs b z hb
theorem Inv.step{g':Array GenState}{t':Nat}{d':Drawn}{ch:List Addr}(I:Inv X pins σ H s)
  (hch:∀b∈ch,(b∈X.ex∨X.s₀.heap.objs.size<=b)/\b≠X.env.locals/\(∀x c,X.env.cells.lookup x=some c->c≠b)/\∀p∈X.pn++pins,p.1≠b)
  (keep:∀b o,b≠X.env.locals->b∉X.fs->b∉ch->s.heap.get? b=some o->H b=none->h'.get? b=some o)
  (slot:∀b o,b≠X.env.locals->b∈X.fs->b∉ch->s.heap.get? b=some o->H b=none->∃sl,h'.get? b=some {o with slots:=sl}) (free:∀b o,b∉ch->s.heap.get? b=some o->H b=none->H' b=none)
  (there:∀b o,b∉ch->s.heap.get? b=some o->∃o',h'.get? b=some o')
  (tups:∀b xs,H b=some (.tup xs)->H' b=some (.tup xs)) (frzs:∀b o u,H b=some (.frz o u)->H' b=some (.frz o u)) (tbls:∀b ps,H b=some (.tbl ps)->∃more,H' b=some (.tbl (ps++more)))
  (ns:∀m,s.heap.Ns X.env.locals m->h'.Ns X.env.locals m) (hok:HOk X.prog X.w H' h') (hg:AllBare g'):
  Inv X pins σ H' {s with heap:=h',gens:=g',drawn:=d',toks:=t'}:=by
 have neL:∀b o,X.s₀.heap.get? b=some o->b≠X.env.locals:=fun b o e=>aY (aZ (aV e) I.ok.above)
 have neC:∀b o,X.s₀.heap.get? b=some o->b∉X.ex->b∉ch:=fun b o e hx hb=>by
  rcases (hch b hb).1 with z | z
  ·exact hx z
  ·exact absurd (aZ (aV e) z) (cE _)
 have cellK:∀x c,X.env.cells.lookup x=some c->∀v,s.heap.IsCell c v->h'.IsCell c v:=fun x c e v ⟨o,ho,hd⟩=>by
  have nch:c∉ch:=fun z=>(hch c z).2.2.1 x c e rfl
  by_cases hc:c∈X.fs
  ·obtain⟨sl,q⟩:=slot c o (I.cne x c e) hc nch ho (I.freeC x c e)
   exact⟨_,q,hd⟩
  ·exact⟨o,keep c o (I.cne x c e) hc nch ho (I.freeC x c e),hd⟩
 refine⟨I.ok,I.os,hg,⟨fun b o e n hb hx=>?_,fun b o e n hb hx=>?_,fun b o e n hx=>?_,fun b o e hx=>?_,fun b xs e=>tups b xs (I.base.tups b xs e),fun b o xs e=>frzs b o xs (I.base.frzs b o xs e),fun b ps e=>?_⟩,?_,fun x c e=>?_,?_,fun x c e=>?_,fun p hp=>?_,hok,I.len⟩
 ·exact keep b o (neL b o e) hb (neC b o e hx) (I.base.keep b o e n hb hx) (I.base.free b o e n hx)
 ·obtain⟨sl,e1⟩:=I.base.slot b o e n hb hx
  obtain⟨sl',e2⟩:=slot b _ (neL b o e) hb (neC b o e hx) e1 (I.base.free b o e n hx)
  exact⟨sl',e2⟩
 ·obtain⟨o',e1⟩:=I.base.there b o e hx
  exact free b o' (neC b o e hx) e1 (I.base.free b o e n hx)
 ·obtain⟨o',e1⟩:=I.base.there b o e hx
  exact there b o' (neC b o e hx) e1
 ·obtain⟨m1,e1⟩:=I.base.tbls b ps e
  obtain⟨m2,e2⟩:=tbls b _ e1
  exact⟨m1++m2,by rw[e2,Array.append_assoc]⟩
 ·obtain⟨m,hn,hl⟩:=I.loc
  refine⟨m,ns m hn,fun i x v e1 e2 e3=>?_⟩
  obtain⟨u,r,l⟩:=hl i x v e1 e2 e3
  refine⟨u,r,?_⟩
  rcases l with l | ⟨k,c,e,z⟩
  ·exact .inl l
  ·exact .inr ⟨k,c,e,cellK x c e _ z⟩
 ·obtain⟨v,z⟩:=I.cell x c e
  exact⟨v,cellK x c e v z⟩
 ·obtain⟨m,⟨o,_,_,ho,_⟩,_⟩:=I.loc
  exact free _ o (fun z=>(hch _ z).2.1 rfl) ho I.free
 ·obtain⟨v,o,ho,hd⟩:=I.cell x c e
  exact free c o (fun z=>(hch c z).2.2.1 x c e rfl) ho (I.freeC x c e)
 ·obtain⟨e,n,ne,nf,d⟩:=I.pin p hp
  have nch:p.1∉ch:=fun z=>(hch p.1 z).2.2.2 p hp rfl
  exact⟨keep p.1 p.2 ne nf nch e n,free p.1 p.2 nch e n,ne,nf,d⟩
theorem Inv.un{t':Nat}(I:Inv X pins σ H s)(u:Un X.fs [] H H' s.heap h')(hok:HOk X.prog X.w H' h'):Inv X pins σ H' {s with heap:=h',toks:=t'}:=by
 obtain⟨m,⟨o,es,ep,ho,r⟩,_⟩:=id I.loc
 obtain⟨sl,hL⟩:=u.any ho I.free (by simp)
 exact I.step (g':=s.gens) (d':=s.drawn) (ch:=[]) (fun _ z=>nomatch z) (fun b o _ hb _ e n=>u.keep b o e n hb (by simp)) (fun b o _ hb _ e n=>u.slot b o e n hb (by simp)) (fun b o _ e n=>u.free b o e n (by simp)) (fun b o _ e=>u.there b o e (by simp)) u.tups u.frzs u.tbls (fun m' hm=>by
  obtain⟨o',es',ep',ho',r'⟩:=hm
  rw[ho] at ho';cases ho'
  exact⟨_,es',ep',hL,r'⟩) hok I.bare
theorem Inv.call{g':Array GenState}{t':Nat}{d':Drawn}{ch:List Addr}(I:Inv X pins σ H s)(u:Un (frs X.stack) ch H H' s.heap h')(hok:HOk X.prog X.w H' h')(hg:AllBare g')
  (hch:∀b∈ch,(b∈X.ex∨X.s₀.heap.objs.size<=b)/\b≠X.env.locals/\(∀x c,X.env.cells.lookup x=some c->c≠b)/\∀p∈X.pn++pins,p.1≠b):
  Inv X pins σ H' {s with heap:=h',gens:=g',drawn:=d',toks:=t'}:=by
 obtain⟨m,⟨o,es,ep,ho,r⟩,_⟩:=id I.loc
 obtain⟨sl,hL⟩:=u.any ho I.free fun z=>(hch _ z).2.1 rfl
 exact I.step (ch:=ch) hch (fun b o hL hb hc e n=>u.keep b o e n (fun z=>(bB.mp (I.stkSub b z)).elim hL hb) hc) (fun b o _ _ hc e n=>u.any e n hc) (fun b o hc e n=>u.free b o e n hc) (fun b o hc e=>u.there b o e hc) u.tups u.frzs u.tbls (fun m' hm=>by
  obtain⟨o',es',ep',ho',r'⟩:=hm
  rw[ho] at ho';cases ho'
  exact⟨_,es',ep',hL,r'⟩) hok hg
theorem Inv.turned{t':Nat}{it:Addr}(I:Inv X pins σ H s)(k:∀b o,b≠it->s.heap.get? b=some o->h'.get? b=some o)(hn:H it=none)(hL:it≠X.env.locals)
  (h1:it∈X.ex∨X.s₀.heap.objs.size<=it) (h2:∀x c,X.env.cells.lookup x=some c->c≠it) (h3:∀p∈X.pn++pins,p.1≠it):Inv X pins σ H {s with heap:=h',toks:=t'}:=by
 have nit:∀b u,H b=some u->b≠it:=fun b u e z=>by rw[z,hn] at e;cases e
 refine I.step (g':=s.gens) (d':=s.drawn) (ch:=[it]) (fun b hb=>?_) (fun b o _ _ hc e _=>k b o (fun z=>hc (by simp[z])) e) (fun b o _ _ hc e _=>⟨o.slots,k b o (fun z=>hc (by simp[z])) e⟩) (fun _ _ _ _ n=>n)
  (fun b o hc e=>⟨o,k b o (fun z=>hc (by simp[z])) e⟩) (fun _ _ e=>e) (fun _ _ _ e=>e) (fun b ps e=>⟨#[],by rw[e];simp⟩) (fun m hm=>?_) (fun b u e=>?_) I.bare
 ·have e:b=it:=by simpa using hb
  subst e
  exact⟨h1,hL,h2,h3⟩
 ·obtain⟨o,es,ep,ho,r⟩:=hm
  exact⟨o,es,ep,k _ o (Ne.symm hL) ho,r⟩
 ·refine (I.hok b u e).stay (fun c v hc q=>k c v ?_ q) (fun _ q=>q) fun _ _ q=>q
  rcases hc with z | z
  ·rw[z];exact nit b u e
  ·exact nit c _ z
theorem Inv.tok(I:Inv X pins σ H s)(t:Nat):Inv X pins σ H {s with toks:=t}:=I.un (h':=s.heap) (t':=t) Un.refl I.hok
theorem Inv.kept{t':Nat}(I:Inv X pins σ H s)(k:∀b u,s.heap.get? b=some u->h'.get? b=some u):Inv X pins σ H {s with heap:=h',toks:=t'}:=I.un (Un.kept k) (I.hok.kept k)
theorem Inv.laid{a:Addr}{o:HO}{t':Nat}(I:Inv X pins σ H s)(k:∀b u,s.heap.get? b=some u->h'.get? b=some u)(hp:s.heap.objs.size<=a)(new:ObjOk X.prog X.w (upd H a o) h' a o):
  Inv X pins σ (upd H a o) {s with heap:=h',toks:=t'}:=I.un (Un.laid k hp (I.hok.fresh hp)) (I.hok.laid k hp new)
theorem Inv.write{x e:Addr}{o:HO}{t':Nat}(I:Inv X pins σ H s)(mu:Mut (H x))(he:e=x∨H e=some (.own x))(k:∀b u,b≠e->s.heap.get? b=some u->h'.get? b=some u)(heo:∃u,h'.get? e=some u)
  (new:ObjOk X.prog X.w (upd H x o) h' x o):Inv X pins σ (upd H x o) {s with heap:=h',toks:=t'}:=I.un (Un.write mu he k heo) (I.hok.write mu he k heo new)
theorem Inv.pins_of{pins':List (Addr×Obj)}(I:Inv X pins σ H s)(h:∀p∈pins',s.heap.get? p.1=some p.2/\H p.1=none/\p.1≠X.env.locals/\p.1∉X.fs/\∀v,p.2.data≠ .cell v):Inv X pins' σ H s:=
 ⟨I.ok,I.os,I.bare,I.base,I.loc,I.cell,I.free,I.freeC,fun p hp=>(bM.mp hp).elim (fun z=>I.pin p (List.mem_append_left _ z)) (h p),I.hok,I.len⟩
theorem arF{N:List Str}(hN:N.Nodup){i j:Nat}{x:Str}(a:N[i]? =some x)(b:N[j]? =some x):i=j:=by
 obtain⟨h1,e1⟩:=dB.mp a
 obtain⟨h2,e2⟩:=dB.mp b
 exact (List.getElem_inj hN).mp (e1.trans e2.symm)
theorem am1{M:Model}{A:Around}{E:Value->Shared->Prop}{i:Nat}{x:Str}{v:V}{u:Value}{Q:Unit->Shared->Prop}(I:Inv X pins σ H s)(hN:X.N.Nodup)(hi:X.N[i]? =some x)(hx:Loc X.env.scope x)(r:RelV v u)
  (h:∀s',Inv X pins (σ.set i (some v)) H s'->(∃a,Heap.SameBut a s.heap s'.heap/\(a=X.env.locals∨X.env.cells.lookup x=some a))->Q () s') (hf:X.fn x=true∨X.env.scope.names.lookup x=some .local:=by first | exact .inl rfl | exact .inr rfl | assumption):wpAny M A (storeName X.env x u) Q E s:=by
 obtain⟨m,hn,hl⟩:=id I.loc
 have hcls:(X.env.scope.kind== .class||(X.env.scope.kind== .module&&X.env.locals !=X.env.globals))=false:=by rw[I.ok.kind];rfl
 have hiσ:i<σ.length:=by rw[I.len];exact (dB.mp hi).1
 have cne:=I.cne
 have tracked:∀{a:Addr} {h':Heap},(∃o,s.heap.get? a=some o/\H a=none)->Heap.SameBut a s.heap h'->HOk X.prog X.w H h':=fun {a h'} ha hs b ob e=>by
  obtain⟨_,_,hfree⟩:=ha
  refine (I.hok b ob e).stay (fun c w' hc q=>(hs.2 c ?_).trans q) (fun _ q=>q) fun _ _ q=>q
  rintro rfl
  rcases hc with rfl | hc
  ·rw[hfree] at e;cases e
  ·rw[hfree] at hc;cases hc
 rcases hx with hk | hk
 ·refine wpAny_storeName_local hk hn (fun h' hn' hs=>?_) hcls
  obtain⟨oL,_,_,hoL,_⟩:=id hn
  refine h _ ⟨I.ok,I.os,I.bare,⟨fun b o e n hb hx=>?_,fun b o e n hb hx=>?_,I.base.free,fun b o e hx=>?_,I.base.tups,I.base.frzs,I.base.tbls⟩,⟨_,hn',fun j y v' e1 e2 e3=>?_⟩,fun y c e=>?_,I.free,I.freeC,fun p hp=>?_,tracked ⟨oL,hoL,I.free⟩ hs,by simpa using I.len⟩ ⟨_,hs,.inl rfl⟩
  ·exact (hs.2 b (aY (aZ (aV e) I.ok.above))).trans (I.base.keep b o e n hb hx)
  ·obtain⟨sl,e1⟩:=I.base.slot b o e n hb hx
   exact⟨sl,(hs.2 b (aY (aZ (aV e) I.ok.above))).trans e1⟩
  ·obtain⟨o',e1⟩:=I.base.there b o e hx
   exact⟨o',(hs.2 b (aY (aZ (aV e) I.ok.above))).trans e1⟩
  ·by_cases hj:j=i
   ·subst hj
    rw[hi] at e1;cases e1
    rw[List.getElem?_set_self hiσ] at e2
    cases e2
    exact⟨u,r,.inl ⟨hk,by simp⟩⟩
   ·rw[List.getElem?_set_ne (Ne.symm hj)] at e2
    obtain⟨u',r',q⟩:=hl j y v' e1 e2 e3
    refine⟨u',r',?_⟩
    rcases q with ⟨k,e⟩ | ⟨k,c,e,z⟩
    ·refine .inl ⟨k,?_⟩
     have:y≠x:=fun e=>hj (arF hN e1 (e▸hi))
     simp[this,e]
    ·exact .inr ⟨k,c,e,z.sameBut hs (cne y c e)⟩
  ·obtain⟨w',z⟩:=I.cell y c e
   exact⟨w',z.sameBut hs (cne y c e)⟩
  ·obtain⟨e,n,ne,nf,d⟩:=I.pin p hp
   exact⟨(hs.2 p.1 ne).trans e,n,ne,nf,d⟩
 ·have hfn:X.fn x=true:=by
   rcases hf with z | z
   ·exact z
   ·rw[z] at hk;cases hk
  obtain⟨c,hc⟩:=I.ok.has x (.inl hk)
  obtain⟨w',z⟩:=I.cell x c hc
  refine wpAny_storeName_cell I.ok.kind hk hc z (fun h' hc' hs=>?_)
  obtain⟨oc,hoc,hocd⟩:=id z
  refine h {s with heap:=h'} ⟨I.ok,I.os,I.bare,⟨fun b o e n hb hx=>?_,fun b o e n hb hx=>?_,I.base.free,fun b o e hx=>?_,I.base.tups,I.base.frzs,I.base.tbls⟩,⟨m,hn.sameBut hs (Ne.symm (cne x c hc)),fun j y v' e1 e2 e3=>?_⟩,fun y c' e=>?_,I.free,I.freeC,fun p hp=>?_,tracked ⟨oc,hoc,I.freeC x c hc⟩ hs,by simpa using I.len⟩ ⟨c,hs,.inr hc⟩
  ·exact (hs.2 b (aY (aZ (aV e) (I.ok.cab x c hfn hc)))).trans (I.base.keep b o e n hb hx)
  ·obtain⟨sl,e1⟩:=I.base.slot b o e n hb hx
   exact⟨sl,(hs.2 b (aY (aZ (aV e) (I.ok.cab x c hfn hc)))).trans e1⟩
  ·obtain⟨o',e1⟩:=I.base.there b o e hx
   exact⟨o',(hs.2 b (aY (aZ (aV e) (I.ok.cab x c hfn hc)))).trans e1⟩
  ·by_cases hj:j=i
   ·subst hj
    rw[hi] at e1;cases e1
    rw[List.getElem?_set_self hiσ] at e2
    cases e2
    exact⟨u,r,.inr ⟨.inl hk,c,hc,hc'⟩⟩
   ·rw[List.getElem?_set_ne (Ne.symm hj)] at e2
    obtain⟨u',r',q⟩:=hl j y v' e1 e2 e3
    refine⟨u',r',?_⟩
    rcases q with q | ⟨k,c',e,z'⟩
    ·exact .inl q
    ·refine .inr ⟨k,c',e,z'.sameBut hs ?_⟩
     rintro rfl
     exact hj (arF hN e1 (I.ok.inj _ _ _ e hc▸hi))
  ·by_cases hcc:c'=c
   ·subst hcc;exact⟨_,hc'⟩
   ·obtain⟨w2,z2⟩:=I.cell y c' e
    exact⟨w2,z2.sameBut hs hcc⟩
  ·obtain⟨e,n,ne,nf,d⟩:=I.pin p hp
   refine⟨(hs.2 p.1 ?_).trans e,n,ne,nf,d⟩
   intro q
   rw[q,hoc] at e
   have q':oc=p.2:=bA e
   exact d w' (by rw[←q'];exact hocd)
theorem ad2{M:Model}{A:Around}{E:Value->Shared->Prop}{i:Nat}{x:Str}{v:V}{u:Value}{Q:Unit->Shared->Prop}(I:Inv X pins σ H s)(hN:X.N.Nodup)(hi:X.N[i]? =some x)(hx:Loc X.env.scope x)(r:RelV v u)
  (h:∀s',Inv X pins (σ.set i (some v)) H s'->Q () s') (hf:X.fn x=true∨X.env.scope.names.lookup x=some .local:=by first | exact .inl rfl | exact .inr rfl | assumption):wpAny M A (storeName X.env x u) Q E s:=
 am1 I hN hi hx r (fun s' I' _=>h s' I') hf
theorem Inv.call'{s':Shared}{ch:List Addr}(I:Inv X pins σ H s)(ho:s'.os=s.os)(u:Un (frs X.stack) ch H H' s.heap s'.heap)(hok:HOk X.prog X.w H' s'.heap)(hg:AllBare s'.gens)
  (hch:∀b∈ch,(b∈X.ex∨X.s₀.heap.objs.size<=b)/\b≠X.env.locals/\(∀x c,X.env.cells.lookup x=some c->c≠b)/\∀p∈X.pn++pins,p.1≠b):Inv X pins σ H' s':=by
 obtain⟨h',g',d',t',o'⟩:=s'
 have e:o'=s.os:=ho
 subst e
 exact I.call (g':=g') (t':=t') (d':=d') u hok hg hch
end
noncomputable abbrev XK:=Value->Option Addr->Hp->Prop
noncomputable abbrev St:=List (Option V)
noncomputable abbrev VK:=V->Hp->Prop
noncomputable abbrev TE:=St->Hp->VK->Prop
noncomputable abbrev TT:=St->Hp->(Bool->Hp->Prop)->Prop
noncomputable abbrev TA:=St->Hp->(List V->Hp->Prop)->Prop
structure Ends where
 nx:St->Hp->Prop
 rt:VK
 bk:St->Hp->Prop:=fun _ _=>False
 ct:St->Hp->Prop:=fun _ _=>False
noncomputable abbrev TS:=Ends->St->Hp->Prop
noncomputable def EP(X:Cx)(pins:List (Addr×Obj))(σ:St)(Q:VK)(u:Value)(s':Shared):Prop:=∃v H',Inv X pins σ H' s'/\RelV v u/\Q v H'
noncomputable def TP(X:Cx)(pins:List (Addr×Obj))(σ:St)(Q:Bool->Hp->Prop)(b:Bool)(s':Shared):Prop:=∃H',Inv X pins σ H' s'/\Q b H'
noncomputable def AP(X:Cx)(pins:List (Addr×Obj))(σ:St)(Q:List V->Hp->Prop)(us:List Value)(s':Shared):Prop:=∃vs H',Inv X pins σ H' s'/\Vals vs us/\Q vs H'
noncomputable def SP(X:Cx)(pins:List (Addr×Obj))(D:Ends)(f:Flow)(s':Shared):Prop:=
 match f with
 |.next=>∃σ' H',Inv X pins σ' H' s'/\D.nx σ' H'
 |.brk=>∃σ' H',Inv X pins σ' H' s'/\D.bk σ' H'
 |.cont=>∃σ' H',Inv X pins σ' H' s'/\D.ct σ' H'
 |.ret u=>∃v σ' H',Inv X pins σ' H' s'/\RelV v u/\D.rt v H'
noncomputable def PE(X:Cx)(e:Expr)(t:TE):Prop:=
 ∀(pins:List (Addr×Obj)) (s:Shared) (σ:St) (H:Hp) (Q:VK),Inv X pins σ H s->t σ H Q->wpAny (model X.prog X.w) X.A (eval e X.env) (EP X pins σ Q) X.xe s
noncomputable def PT(X:Cx)(e:Expr)(t:TT):Prop:=
 ∀(pins:List (Addr×Obj)) (s:Shared) (σ:St) (H:Hp) (Q:Bool->Hp->Prop),Inv X pins σ H s->t σ H Q->wpAny (model X.prog X.w) X.A (isTrue e X.env (eval e X.env)) (TP X pins σ Q) X.xe s
noncomputable def PW(X:Cx)(e:Expr)(t:TT):Prop:=
 ∀(whole:Sem Value) (pins:List (Addr×Obj)) (s:Shared) (σ:St) (H:Hp) (Q:Bool->Hp->Prop),Inv X pins σ H s->t σ H Q->wpAny (model X.prog X.w) X.A (isTrue e X.env whole) (TP X pins σ Q) X.xe s
theorem PW.pt{X:Cx}{e:Expr}{t:TT}(h:PW X e t):PT X e t:=h _
noncomputable def PA(X:Cx)(es:List Expr)(t:TA):Prop:=
 ∀(pos:Pos) (pins:List (Addr×Obj)) (s:Shared) (σ:St) (H:Hp) (Q:List V->Hp->Prop),Inv X pins σ H s->t σ H Q->wpAny (model X.prog X.w) X.A (spliced (backTo pos (starEach es X.env))) (AP X pins σ Q) X.xe s
noncomputable def PS(X:Cx)(st:Stmt)(t:TS):Prop:=
 ∀(pins:List (Addr×Obj)) (s:Shared) (σ:St) (H:Hp) (D:Ends),Inv X pins σ H s->t D σ H->wpAny (model X.prog X.w) X.A (exec st X.env) (SP X pins D) X.xe s
noncomputable def PSs(X:Cx)(st:List Stmt)(t:TS):Prop:=
 ∀(pins:List (Addr×Obj)) (s:Shared) (σ:St) (H:Hp) (D:Ends),Inv X pins σ H s->t D σ H->wpAny (model X.prog X.w) X.A (execs st X.env) (SP X pins D) X.xe s
theorem thn{α:Type}{t:Sem α}{Q Q':α->Shared->Prop}{M:Model}{A:Around}{E:Value->Shared->Prop}{s:Shared}(h:wpAny M A t Q E s)(hQ:∀a s,Q a s->Q' a s):wpAny M A t Q' E s:=dN h hQ fun _ _ x=>x
section
variable{X:Cx}
noncomputable def ay0(i:Nat):TE:=fun σ H Q=>∃v,σ[i]? =some (some v)/\Q v H
noncomputable def tC(v:V):TE:=fun _ H Q=>Q v H
theorem aB7{i:Nat}{x:Str}{pos:Pos}(hN:X.N[i]? =some x)(hv:Vis X.env.scope x)(hd:(x==("__debug__":Str))=false:=by decide)(hcd:(x==("__classdict__":Str))=false:=by decide):PE X (.Name x pos) (ay0 i):=by
 intro pins s σ H Q I h
 obtain⟨v,e,h⟩:=h
 obtain⟨m,hn,hl⟩:=I.loc
 obtain⟨u,r,l⟩:=hl i x v hN e hv
 have fin:EP X pins σ Q u s:=⟨v,H,I,r,h⟩
 rcases l with ⟨hk,hm⟩ | ⟨hk,c,hc,hcell⟩
 ·exact wpAny_Name (wpAny_loadName_local I.ok.kind hk hn hm fin) hd
 ·rcases hk with hk | hk
  ·exact wpAny_Name (wpAny_loadName_cell I.ok.kind hk hc hcell fin) hd
  ·exact wpAny_Name (wpAny_loadName_free I.ok.kind hk hc hcell fin hcd) hd
theorem ayE{i j pos}:PE X (.Constant (.int i) j pos) (tC (.int i)):=fun _ _ _ H _ I h=>wpAny_Constant_int ⟨.int i,H,I.tok _,⟨_,rfl⟩,h⟩
theorem aL6{b j pos}:PE X (.Constant (.bool b) j pos) (tC (.bl b)):=fun _ _ _ H _ I h=>Constant_bool ⟨.bl b,H,I,rfl,h⟩
theorem aCU{j pos}:PE X (.Constant .none j pos) (tC .non):=fun _ _ _ H _ I h=>Constant_none ⟨.non,H,I,rfl,h⟩
theorem awP{x j pos}:PE X (.Constant (.str x) j pos) (tC (.str x)):=fun _ _ _ H _ I h=>Calls.Constant_str ⟨.str x,H,I.tok _,⟨_,rfl⟩,h⟩
noncomputable def Gl(X:Cx)(x:Str):Prop:=X.env.kindOf x=some .globalImplicit
theorem aeZ{E:Value->Shared->Prop}{pins:List (Addr×Obj)}{s:Shared}{σ:St}{H:Hp}{x:Str}{u:Value}{pos:Pos}{Q:Value->Shared->Prop}(I:Inv X pins σ H s)(hg:Gl X x)(hm:X.mg x=some u)(h:Q u s)
  (hd:(x==("__debug__":Str))=false:=by decide):wpAny (model X.prog X.w) X.A (eval (.Name x pos) X.env) Q E s:=
 Calls.Name_function_global I.ok.kind hg (Calls.loadGlobal_global (by rw[I.ok.glob];exact I.mod.glob.keeps I.bk) hm h) hd
theorem ahQ{E:Value->Shared->Prop}{pins:List (Addr×Obj)}{s:Shared}{σ:St}{H:Hp}{x:Str}{u:Value}{pos:Pos}{Q:Value->Shared->Prop}(I:Inv X pins σ H s)(hg:Gl X x)(hm:X.mg x=none)(hv:bootBuiltins x=some u)(h:Q u s)
  (hn:x≠"__name__":=by decide) (hd:(x==("__debug__":Str))=false:=by decide):wpAny (model X.prog X.w) X.A (eval (.Name x pos) X.env) Q E s:=by
 obtain⟨mb,h1,h2⟩:=I.mod.blt
 exact Calls.Name_function_global I.ok.kind hg (Calls.loadGlobal_builtin (by rw[I.ok.glob];exact I.mod.glob.keeps I.bk) hm (by rw[I.ok.blt];exact h1.keeps I.bk) ((h2 x hn).trans hv) h) hd
theorem azJ{x:Str}{v:V}{u:Value}{pos:Pos}(hg:Gl X x)(hm:X.mg x=some u)(r:RelV v u)(hd:(x==("__debug__":Str))=false:=by decide):PE X (.Name x pos) (tC v):=
 fun _ _ _ H _ I h=>aeZ I hg hm ⟨v,H,I,r,h⟩ hd
theorem aAR{x:Str}{v:V}{u:Value}{pos:Pos}(hg:Gl X x)(hm:X.mg x=none)(hv:bootBuiltins x=some u)(r:RelV v u)(hn:x≠"__name__":=by decide)(hd:(x==("__debug__":Str))=false:=by decide):PE X (.Name x pos) (tC v):=
 fun _ _ _ H _ I h=>ahQ I hg hm hv ⟨v,H,I,r,h⟩ hn hd
variable{a b:Expr}{ta tb:TE}{pos:Pos}
noncomputable def PC(X:Cx)(op:CmpOp)(a b:Expr)(t:TE):Prop:=
 ∀(pins:List (Addr×Obj)) (s:Shared) (σ:St) (H:Hp) (Q:VK),Inv X pins σ H s->t σ H Q->
  wpAny (model X.prog X.w) X.A (eval a X.env) (fun v s₁=>wpAny (model X.prog X.w) X.A (eval b X.env) (fun u s₂=>wpAny (model X.prog X.w) X.A (compareOp op v u) (EP X pins σ Q) X.xe s₂) X.xe s₁) X.xe s
theorem axE(b:Expr){op:CmpOp}(h:op≠ .In)(h2:op≠ .NotIn):behindInMarks op b=false:=by
 have e1:(op==CmpOp.In)=false:=by cases op<;>first | rfl | exact absurd rfl h
 have e2:(op==CmpOp.NotIn)=false:=by cases op<;>first | rfl | exact absurd rfl h2
 cases b<;>simp[behindInMarks,e1,e2]
noncomputable def tB(t:TE):TT:=fun σ H Q=>t σ H fun x H1=>∃c,x=.bl c/\Q c H1
theorem aD3{op:CmpOp}{t:TE}(h:PC X op a b t)(h1:behindInMarks op b=false:=by first | exact axE _ (by decide) (by decide) | rfl):PT X (.Compare a [op] [b] pos) (tB t):=by
 intro pins s σ H Q I hw
 refine wpAny_isTrue_Compare1 (thn (h pins s σ H _ I hw) fun v s1 h1=>thn h1 fun u s2 h2=>thn h2 fun c s3 ⟨x,H1,I1,r1,q1⟩=>?_) h1
 obtain⟨d,rfl,q⟩:=q1
 cases r1
 exact dZ ⟨H1,I1,q⟩
theorem aDV{e:Expr}{t:TE}(h:PE X e t)(he:∀whole,isTrue e X.env whole=(do let v ←whole;standAt e.pos;holding [v] (truthy v)):=by intro _;rfl):PT X e (tB t):=by
 intro pins s σ H Q I hw
 refine isTrue_plain (thn (h pins s σ H _ I hw) fun v s1 ⟨x,H1,I1,r1,q1⟩=>?_) (he _)
 obtain⟨d,rfl,q⟩:=q1
 cases r1
 exact dZ ⟨H1,I1,q⟩
variable{tA tB':TT}{rest:List Expr}
noncomputable def aJH(t u:TT):TT:=fun σ H Q=>t σ H fun c H1=>if c=true then u σ H1 Q else Q false H1
noncomputable def tOr(t u:TT):TT:=fun σ H Q=>t σ H fun c H1=>if c=true then Q true H1 else u σ H1 Q
noncomputable def aOM(t:TT):TT:=fun σ H Q=>t σ H fun c H1=>Q (!c) H1
theorem azI(ha:PT X a tA):PW X (.BoolOp .And [a] pos) tA:=by
 intro wh pins s σ H Q I h
 refine isTrue_and (thn (ha pins s σ H Q I h) fun c s1 e=>?_)
 cases c with
 |true=>exact isTrue_and_nil e
 |false=>exact e
theorem aC2(ha:PT X a tA):PW X (.BoolOp .Or [a] pos) tA:=by
 intro wh pins s σ H Q I h
 refine isTrue_or (thn (ha pins s σ H Q I h) fun c s1 e=>?_)
 cases c with
 |false=>exact isTrue_or_nil e
 |true=>exact e
theorem aCC(ha:PT X a tA)(hb:PW X (.BoolOp .And (b::rest) pos) tB'):PW X (.BoolOp .And (a::b::rest) pos) (aJH tA tB'):=by
 intro wh pins s σ H Q I h
 refine isTrue_and (thn (ha pins s σ H _ I h) fun c s1 ⟨H1,I1,q1⟩=>?_)
 cases c with
 |true=>exact hb wh pins s1 σ H1 Q I1 q1
 |false=>exact⟨H1,I1,q1⟩
theorem aH9(ha:PT X a tA)(hb:PW X (.BoolOp .Or (b::rest) pos) tB'):PW X (.BoolOp .Or (a::b::rest) pos) (tOr tA tB'):=by
 intro wh pins s σ H Q I h
 refine isTrue_or (thn (ha pins s σ H _ I h) fun c s1 ⟨H1,I1,q1⟩=>?_)
 cases c with
 |true=>exact⟨H1,I1,q1⟩
 |false=>exact hb wh pins s1 σ H1 Q I1 q1
theorem aCP(ha:PT X a tA):PT X (.UnaryOp .Not a pos) (aOM tA):=by
 intro pins s σ H Q I h
 exact isTrue_not (ha pins s σ H (fun c H1=>Q (!c) H1) I h)
noncomputable def aBE(ta tb:TE):TE:=fun σ H Q=>ta σ H fun x H1=>∃c,x=.bl c/\if c=true then tb σ H1 Q else Q (.bl false) H1
noncomputable def aHJ(ta tb:TE):TE:=fun σ H Q=>ta σ H fun x H1=>∃c,x=.bl c/\if c=true then Q (.bl true) H1 else tb σ H1 Q
noncomputable def aBV(ta:TE):TE:=fun σ H Q=>ta σ H fun x H1=>∃c,x=.bl c/\Q (.bl (!c)) H1
theorem aCY{op}{t:TE}(h:PE X a t):PE X (.BoolOp op [a] pos) t:=fun pins s σ H Q I hw=>BoolOp_one (h pins s σ H Q I hw)
theorem aC5(ha:PE X a ta)(hb:PE X (.BoolOp .And (b::rest) pos) tb):PE X (.BoolOp .And (a::b::rest) pos) (aBE ta tb):=by
 intro pins s σ H Q I h
 refine BoolOp_and (thn (ha pins s σ H _ I h) fun v s1 ⟨x,H1,I1,r1,q1⟩=>?_)
 obtain⟨c,rfl,q1⟩:=q1
 cases r1
 refine dZ ?_
 cases c with
 |true=>exact hb pins s1 σ H1 Q I1 q1
 |false=>exact⟨.bl false,H1,I1,rfl,q1⟩
theorem aG5(ha:PE X a ta)(hb:PE X (.BoolOp .Or (b::rest) pos) tb):PE X (.BoolOp .Or (a::b::rest) pos) (aHJ ta tb):=by
 intro pins s σ H Q I h
 refine BoolOp_or (thn (ha pins s σ H _ I h) fun v s1 ⟨x,H1,I1,r1,q1⟩=>?_)
 obtain⟨c,rfl,q1⟩:=q1
 cases r1
 refine dZ ?_
 cases c with
 |false=>exact hb pins s1 σ H1 Q I1 q1
 |true=>exact⟨.bl true,H1,I1,rfl,q1⟩
theorem aDT(ha:PE X a ta):PE X (.UnaryOp .Not a pos) (aBV ta):=by
 intro pins s σ H Q I h
 refine UnaryOp_ (thn (ha pins s σ H _ I h) fun v s1 ⟨x,H1,I1,r1,q1⟩=>?_)
 obtain⟨c,rfl,q1⟩:=q1
 cases r1
 exact not_of (dZ ⟨.bl (!c),H1,I1,rfl,q1⟩)
noncomputable def tIf(t:TT)(ta tb:TE):TE:=fun σ H Q=>t σ H fun c H1=>if c=true then ta σ H1 Q else tb σ H1 Q
theorem axM{c:Expr}(hc:PT X c tA)(ha:PE X a ta)(hb:PE X b tb):PE X (.IfExp c a b pos) (tIf tA ta tb):=by
 intro pins s σ H Q I h
 refine wpAny_IfExp (thn (hc pins s σ H _ I h) fun d s1 ⟨H1,I1,q1⟩=>?_)
 cases d with
 |true=>exact ha pins s1 σ H1 Q I1 q1
 |false=>exact hb pins s1 σ H1 Q I1 q1
end
noncomputable def SqL(K:FG)(H:Hp)(a:Addr)(xs:List V):Prop:=
 Rd H a (.lst xs)∨
  ∃(o:Obj) (its:Array Value) (n:Nat),K.lookup a=some o/\o.cls=.type "list"/\o.dict=none/\o.data=.seq its n/\its.size<=sizeLine/\Vals xs its.toList
noncomputable def SqT(K:FG)(H:Hp)(a:Addr)(xs:List V):Prop:=
 Rd H a (.tup xs)∨
  ∃(o:Obj) (its:Array Value) (n:Nat),K.lookup a=some o/\o.cls=.type "tuple"/\o.data=.seq its n/\its.size<=sizeLine/\Vals xs its.toList
noncomputable def absV:Value->Option V
 |.none=>some .non
 |.bool b=>some (.bl b)
 |.int i _=>some (.int i)
 |.str x _=>some (.str x)
 |.bytes b _=>some (.byt b)
 |.float b _=>some (.flt b)
 |.ref a=>some (.ref a)
 |.type n=>some (.ty n)
 |_=>none
theorem RelV.abs{x:V}{u:Value}(r:RelV x u):absV u=some x:=by
 cases x with
 |non=>cases r;rfl
 |bl _=>cases r;rfl
 |int _=>obtain⟨t,rfl⟩:=r;rfl
 |str _=>obtain⟨t,rfl⟩:=r;rfl
 |byt _=>obtain⟨t,rfl⟩:=r;rfl
 |flt _=>obtain⟨t,rfl⟩:=r;rfl
 |ref _=>cases r;rfl
 |ty _=>cases r;rfl
theorem RelV.inj{x y:V}{u:Value}(r:RelV x u)(q:RelV y u):x=y:=bA (r.abs.symm.trans q.abs)
theorem Vals.inj:∀{xs ys:List V} {us:List Value},Vals xs us->Vals ys us->xs=ys
 |_,_,_,.nil,.nil=>rfl
 |_,_,_,.cons r t,.cons r' t'=>by rw[r.inj r',Vals.inj t t']
section
variable{X:Cx}{pins:List (Addr×Obj)}{σ:St}{H:Hp}{s:Shared}{a:Addr}{xs ys:List V}
theorem SqL.of{K:FG}(h:H a=some (.lst xs)):SqL K H a xs:=.inl (.inl h)
theorem SqT.of{K:FG}(h:H a=some (.tup xs)):SqT K H a xs:=.inl (.inl h)
theorem Inv.list(I:Inv X pins σ H s)(h:SqL X.K H a xs):∃its:List Value,Vals xs its/\PlainL s.heap a its.toArray/\xs.length<=sizeLine:=by
 rcases h with h | ⟨o,its,n,hk,hc,hd,hs,hz,r⟩
 ·obtain⟨z,its,n,r,e⟩:=h.ok I.hok
  exact⟨its,r,⟨_,n,e,rfl,rfl,rfl⟩,z⟩
 ·refine⟨its.toList,r,⟨o,n,I.kIn a o hk,hc,hd,by simpa using hs⟩,?_⟩
  have e:=r.length
  simp only[Array.length_toList] at e
  omega
theorem Inv.tuple(I:Inv X pins σ H s)(h:SqT X.K H a xs):∃its:List Value,Vals xs its/\IsTup s.heap a its.toArray/\xs.length<=sizeLine:=by
 rcases h with h | ⟨o,its,n,hk,hc,hs,hz,r⟩
 ·obtain⟨z,its,r,p⟩:=h.ok I.hok
  exact⟨its,r,p,z⟩
 ·refine⟨its.toList,r,⟨o,I.kIn a o hk,hc,n,by simpa using hs⟩,?_⟩
  have e:=r.length
  simp only[Array.length_toList] at e
  omega
theorem Inv.list_inj(I:Inv X pins σ H s)(h:SqL X.K H a xs)(h':SqL X.K H a ys):xs=ys:=by
 obtain⟨its,r,⟨o,n,e,_,_,d⟩,_⟩:=I.list h
 obtain⟨its',r',⟨o',n',e',_,_,d'⟩,_⟩:=I.list h'
 rw[e] at e';cases e'
 rw[d] at d'
 injection d' with d1 _
 have:its=its':=by simpa using congrArg Array.toList d1
 subst this
 exact r.inj r'
theorem Inv.tuple_inj(I:Inv X pins σ H s)(h:SqT X.K H a xs)(h':SqT X.K H a ys):xs=ys:=by
 obtain⟨its,r,⟨o,e,_,n,d⟩,_⟩:=I.tuple h
 obtain⟨its',r',⟨o',e',_,n',d'⟩,_⟩:=I.tuple h'
 rw[e] at e';cases e'
 rw[d] at d'
 injection d' with d1 _
 have:its=its':=by simpa using congrArg Array.toList d1
 subst this
 exact r.inj r'
end
noncomputable abbrev Cx.wish(X:Cx)(E:Value->Shared->Prop):Cx:={X with xe:=E}
noncomputable abbrev Cx.nox(X:Cx):Cx:=X.wish fun _ _=>False
theorem Cx.Ok.wish{X:Cx}(ok:X.Ok)(E:Value->Shared->Prop):(X.wish E).Ok:=
 ⟨ok.mod,ok.kind,ok.glob,ok.blt,ok.above,ok.inj,ok.has,ok.cab,ok.hd,ok.frames,ok.stk,ok.exf,ok.bs,ok.bsz,ok.noex,ok.exfs,ok.funs,ok.frf⟩
theorem Cx.Ok.unwish{X:Cx}{E:Value->Shared->Prop}(ok:(X.wish E).Ok):X.Ok:=
 ⟨ok.mod,ok.kind,ok.glob,ok.blt,ok.above,ok.inj,ok.has,ok.cab,ok.hd,ok.frames,ok.stk,ok.exf,ok.bs,ok.bsz,ok.noex,ok.exfs,ok.funs,ok.frf⟩
section
variable{X:Cx}{pins:List (Addr×Obj)}{σ:St}{H:Hp}{s:Shared}{E:Value->Shared->Prop}
theorem Inv.wish(I:Inv X pins σ H s)(E:Value->Shared->Prop):Inv (X.wish E) pins σ H s:=⟨I.ok.wish E,I.os,I.bare,I.base,I.loc,I.cell,I.free,I.freeC,I.pin,I.hok,I.len⟩
theorem Inv.unwish(I:Inv (X.wish E) pins σ H s):Inv X pins σ H s:=⟨I.ok.unwish,I.os,I.bare,I.base,I.loc,I.cell,I.free,I.freeC,I.pin,I.hok,I.len⟩
theorem SP.unwish{D:Ends}{f:Flow}{s':Shared}(h:SP (X.wish E) pins D f s'):SP X pins D f s':=by
 cases f with
 |next=>obtain⟨σ',H',I,q⟩:=h;exact⟨σ',H',I.unwish,q⟩
 |brk=>obtain⟨σ',H',I,q⟩:=h;exact⟨σ',H',I.unwish,q⟩
 |cont=>obtain⟨σ',H',I,q⟩:=h;exact⟨σ',H',I.unwish,q⟩
 |ret u=>obtain⟨v,σ',H',I,r,q⟩:=h;exact⟨v,σ',H',I.unwish,r,q⟩
theorem PSs.nox{st:List Stmt}{t:TS}(h:PSs X.nox st t):PSs X st t:=fun pins s σ H D I hw=>
 dN (h pins s σ H D (I.wish _) hw) (fun _ _ q=>q.unwish) fun _ _ z=>False.elim z
end
section
variable{X:Cx}{st:Stmt}{rest:List Stmt}{t u:TS}{e:Expr}{te:TE}{pos:Pos}
noncomputable def aBN:TS:=fun D σ H=>D.nx σ H
noncomputable def azD(t u:TS):TS:=fun D σ H=>t {D with nx:=u D} σ H
theorem ay8:PSs X [] aBN:=fun _ _ σ H _ I h=>wpAny_execs_nil ⟨σ,H,I,h⟩
theorem ayF(h1:PS X st t)(h2:PSs X rest u):PSs X (st::rest) (azD t u):=by
 intro pins s σ H D I h
 refine wpAny_execs_cons (thn (h1 pins s σ H {D with nx:=u D} I h) fun f s1 q=>?_)
 cases f with
 |next=>
  obtain⟨σ',H',I',q⟩:=q
  exact h2 pins s1 σ' H' D I' q
 |ret v=>exact q
 |brk=>exact q
 |cont=>exact q
theorem aAS(h1:PS X st t):PSs X [st] t:=by
 intro pins s σ H D I h
 refine wpAny_execs_cons (thn (h1 pins s σ H D I h) fun f s1 q=>?_)
 cases f with
 |next=>exact wpAny_execs_nil q
 |ret v=>exact q
 |brk=>exact q
 |cont=>exact q
theorem Inv.quiet{pins:List (Addr×Obj)}{σ:St}{H:Hp}{s:Shared}(I:Inv X pins σ H s):interactive X.env=false:=by simp[interactive,I.ok.kind]
noncomputable def aBC(te:TE):TS:=fun D σ H=>te σ H fun _ H1=>D.nx σ H1
theorem aAU(he:PE X e te)(hs:swapsWith e none pos.line X.env=pure false:=by rfl):PS X (.Expr e pos) (aBC te):=by
 intro pins s σ H D I h
 exact wpAny_Expr_any (thn (he pins s σ H _ I h) fun v s1 ⟨x,H1,I1,r1,q1⟩=>⟨σ,H1,I1,q1⟩) I.quiet hs
noncomputable def aMT(te:TE):TS:=fun D σ H=>te σ H D.rt
theorem aCT(he:PE X e te):PS X (.Return (some e) pos) (aMT te):=by
 intro pins s σ H D I h
 exact wpAny_Return_some (thn (he pins s σ H _ I h) fun v s1 ⟨x,H1,I1,r1,q1⟩=>⟨x,σ,H1,I1,r1,q1⟩)
noncomputable def aGE(c:TT)(t u:TS):TS:=fun D σ H=>c σ H fun b H1=>if b=true then t D σ H1 else u D σ H1
theorem aKL{c:Expr}{a b:List Stmt}{tc:TT}(hc:PT X c tc)(ha:PSs X a t)(hb:PSs X b u):PS X (.If c a b pos) (aGE tc t u):=by
 intro pins s σ H D I h
 refine wpAny_If (thn (hc pins s σ H _ I h) fun d s1 ⟨H1,I1,q1⟩=>?_)
 cases d with
 |true=>exact ha pins s1 σ H1 D I1 q1
 |false=>exact hb pins s1 σ H1 D I1 q1
noncomputable def aw5:TS:=fun _ _ _=>False
theorem awG:PS X st aw5:=fun _ _ _ _ _ _ h=>h.elim
end
noncomputable abbrev TG:=V->St->Hp->(St->Hp->Prop)->Prop
noncomputable abbrev TGs:=List V->St->Hp->(St->Hp->Prop)->Prop
noncomputable def PG(X:Cx)(target:Expr)(t:TG):Prop:=
 ∀(pins:List (Addr×Obj)) (s:Shared) (σ:St) (H:Hp) (v:V) (u:Value) (Q:St->Hp->Prop),Inv X pins σ H s->RelV v u->t v σ H Q->
  wpAny (model X.prog X.w) X.A (assign target X.env u) (fun _ s'=>∃σ' H',Inv X pins σ' H' s'/\Q σ' H') X.xe s
noncomputable def PGs(X:Cx)(ts:List Expr)(t:TGs):Prop:=
 ∀(pins:List (Addr×Obj)) (s:Shared) (σ:St) (H:Hp) (vs:List V) (us:List Value) (Q:St->Hp->Prop),Inv X pins σ H s->Vals vs us->t vs σ H Q->
  wpAny (model X.prog X.w) X.A (assignInOrder ((assignEach ts X.env).map (·.2)) us) (fun _ s'=>∃σ' H',Inv X pins σ' H' s'/\Q σ' H') X.xe s
noncomputable abbrev aDG:=V->V->V->Hp->(Hp->Prop)->Prop
noncomputable def aMB(X:Cx)(t:aDG):Prop:=
 ∀(pins:List (Addr×Obj)) (s:Shared) (σ:St) (H:Hp) (o i v:V) (ov iv u:Value) (Q:Hp->Prop),Inv X pins σ H s->RelV o ov->RelV i iv->RelV v u->t o i v H Q->
  wpAny (model X.prog X.w) X.A (setItem ov iv u) (fun _ s'=>∃H',Inv X pins σ H' s'/\Q H') X.xe s
section
variable{X:Cx}{pos:Pos}
noncomputable def abV(i:Nat):TG:=fun v σ H Q=>Q (σ.set i (some v)) H
theorem aAN{i:Nat}{x:Str}(hN:X.N.Nodup)(hi:X.N[i]? =some x)(hx:Loc X.env.scope x)(hf:X.fn x=true∨X.env.scope.names.lookup x=some .local:=by first | exact .inl rfl | exact .inr rfl | assumption):PG X (.Name x pos) (abV i):=by
 intro pins s σ H v u Q I r h
 exact wpAny_assign_Name (ad2 I hN hi hx r (fun s' I'=>⟨_,H,I',h⟩) hf)
noncomputable def aDZ:TGs:=fun vs σ H Q=>vs=[]/\Q σ H
noncomputable def auK(t:TG)(u:TGs):TGs:=fun vs σ H Q=>∃v r,vs=v::r/\t v σ H fun σ' H'=>u r σ' H' Q
theorem az2:PGs X [] aDZ:=by
 intro pins s σ H vs us Q I r h
 obtain⟨e,h⟩:=h
 subst e
 cases r
 exact assignInOrder_nil ⟨σ,H,I,h⟩
theorem axG{e:Expr}{es:List Expr}{t:TG}{u:TGs}(h1:PG X e t)(h2:PGs X es u)
  (hs:(assignEach (e::es) X.env).map (·.2)=assign e X.env::(assignEach es X.env).map (·.2):=by rfl):PGs X (e::es) (auK t u):=by
 intro pins s σ H vs us Q I r h
 obtain⟨v,vr,e1,h⟩:=h
 subst e1
 cases r with
 |cons r rr=>
  rw[hs]
  refine assignInOrder_cons (thn (h1 pins s σ H _ _ _ I r h) fun _ s1 ⟨σ1,H1,I1,q1⟩=>?_)
  exact h2 pins s1 σ1 H1 _ _ Q I1 rr q1
noncomputable def ay1(K:FG)(n:Nat)(t:TGs):TG:=fun v σ H Q=>∃a xs,v=.ref a/\SqT K H a xs/\xs.length=n/\t xs σ H Q
theorem aDQ{es:List Expr}{k:Nat}{t:TGs}{n:Nat}(hc:X.calm=true)(h:PGs X es t)
  (hn:(assignEach es X.env).length=n:=by rfl) (hst:(assignEach es X.env).findIdx? (·.1)=none:=by rfl):PG X (.Tuple es k pos) (ay1 X.K n t):=by
 intro pins s σ H v u Q I r hw
 obtain⟨a,xs,e1,hq,hl,hw⟩:=hw
 subst e1
 cases r
 obtain⟨its,rv,ht,hz⟩:=I.tuple hq
 refine assign_Tuple_tuple (I.ok.hd hc) ht (by simp[hn,←hl,rv.length]) hst fun h' hx=>?_
 have I1:Inv X pins σ H {s with heap:=h'}:=I.kept (t':=s.toks) fun b o e=>hx b o (aY (aV e)) e
 exact h pins _ σ H xs _ Q I1 (by simpa using rv) hw
noncomputable def aI0(to ti:TE)(t:aDG):TG:=fun v σ H Q=>to σ H fun o H1=>ti σ H1 fun i H2=>t o i v H2 fun H3=>Q σ H3
theorem aCA{o i:Expr}{to ti:TE}{t:aDG}(ho:PE X o to)(hi:PE X i ti)(hs:aMB X t)
  (ha:∀v,assign (.Subscript o i pos) X.env v=(do
   let ov ←holding [v] (eval o X.env)
   let iv ←holding [v,ov] (eval i X.env)
   standAt pos
   holding [v,ov,iv] (setItem ov iv v)
   release [v,ov,iv] []):=by intro _;rfl):PG X (.Subscript o i pos) (aI0 to ti t):=by
 intro pins s σ H v u Q I r h
 rw[ha]
 refine dM (dP (thn (ho pins s σ H _ I h) fun ov s1 ⟨x,H1,I1,r1,q1⟩=>?_))
 refine dM (dP (thn (hi pins s1 σ H1 _ I1 q1) fun iv s2 ⟨y,H2,I2,r2,q2⟩=>?_))
 refine dM (wpAny_standAt (dM (dP (thn (hs pins s2 σ H2 x y v ov iv u _ I2 r1 r2 r q2) fun _ s3 ⟨H3,I3,q3⟩=>?_))))
 exact wpAny_release ⟨σ,H3,I3,q3⟩
noncomputable def ar5(te:TE)(g:TG):TS:=fun D σ H=>te σ H fun x H1=>g x σ H1 D.nx
theorem aD0{tg e:Expr}{te:TE}{g:TG}(he:PE X e te)(hg:PG X tg g)(hs:swapsWithSole [tg] e pos.line X.env=pure false:=by rfl)(hw:swappedStores [tg] e X.env=pure none:=by rfl)
  (h1:(assignEach [tg] X.env).map (·.2)=[assign tg X.env]:=by rfl):PS X (.Assign [tg] e pos) (ar5 te g):=by
 intro pins s σ H D I h
 refine wpAny_Assign_stores (thn (he pins s σ H _ I h) fun v s1 ⟨x,H1,I1,r1,q1⟩=>?_) hs hw
 rw[h1]
 exact thn (hg pins s1 σ H1 x v _ I1 r1 q1) fun _ s2 q=>q
theorem aEA{i:Nat}{x:Str}{e:Expr}{te:TE}{pos':Pos}(hN:X.N.Nodup)(hi:X.N[i]? =some x)(hx:Loc X.env.scope x)(he:PE X e te)(hs:swapsWith e (some (.Name x pos')) pos.line X.env=pure false:=by rfl)(hf:X.fn x=true∨X.env.scope.names.lookup x=some .local:=by first | exact .inl rfl | exact .inr rfl | assumption):
  PS X (.Assign [.Name x pos'] e pos) (ar5 te (abV i)):=by
 intro pins s σ H D I h
 refine wpAny_Assign_Name (thn (he pins s σ H _ I h) fun v s1 ⟨y,H1,I1,r1,q1⟩=>?_) hs
 exact ad2 I1 hN hi hx r1 (fun s2 I2=>⟨_,H1,I2,q1⟩) hf
noncomputable def aGN(i j:Nat)(ta:TA):TS:=fun D σ H=>ta σ H fun vs H1=>∃v w,vs=[v,w]/\D.nx ((σ.set i (some v)).set j (some w)) H1
theorem aCJ{i j:Nat}{x y:Str}{a b:Expr}{ta:TA}{px py pt:Pos}{kt k2 pt2}(hc:X.calm=true)(hN:X.N.Nodup)(hi:X.N[i]? =some x)(hj:X.N[j]? =some y)(hij:i≠j)
  (hx:X.env.scope.names.lookup x=some .local) (hy:X.env.scope.names.lookup y=some .local) (ha:PA X [a,b] ta)
  (hw:swappedStores [.Tuple [.Name x px,.Name y py] kt pt] (.Tuple [a,b] k2 pt2) X.env=pure (some [x,y]))
  (hs:swapsWithSole [.Tuple [.Name x px,.Name y py] kt pt] (.Tuple [a,b] k2 pt2) pos.line X.env=pure false:=by rfl):
  PS X (.Assign [.Tuple [.Name x px,.Name y py] kt pt] (.Tuple [a,b] k2 pt2) pos) (aGN i j ta):=by
 intro pins s σ H D I h
 rw[exec_Assign_arm]
 refine dM (wpAny_standAt ?_)
 rw[hs]
 refine dM (dY ?_)
 rw[if_neg (by decide)]
 refine dM (Tuple_ (thn (ha _ pins s σ H _ I h) fun us s1 ⟨vs,H1,I1,r1,q1⟩=>?_))
 obtain⟨v,w,e1,q1⟩:=q1
 subst e1
 obtain⟨u1,u2,rfl,rv,rw'⟩:∃u1 u2,us=[u1,u2]/\RelV v u1/\RelV w u2:=by
  cases r1 with
  |cons p q=>
   cases q with
   |cons p' q'=>
    cases q'
    exact⟨_,_,rfl,p,p'⟩
 refine wpAny_newObj_type ?_ (by show 2<=sizeLine;decide)
 have I2:Inv X pins σ H1 {s1 with heap:=s1.heap.push {cls:=.type "tuple",data:=.seq [u1,u2].toArray} }:=I1.kept (t':=s1.toks) fun b o e=>a8 _ e
 rw[hw]
 refine dM (dY ?_)
 show wpAny (model X.prog X.w) X.A (do rule "assign.swapped-stores";let items ←unpackItems (.ref s1.heap.objs.size) 2 none;assignInOrder [fun v=>bindName X.env y v,fun v=>bindName X.env x v] items.reverse;pure Flow.next) _ _ _
 refine dM (wpAny_rule (dM (unpackItems_tuple (items:= #[u1,u2]) (I.ok.hd hc) (IsTup.new s1.heap _) fun h' hx'=>?_)))
 have I3:=I2.kept (h':=h') (t':=s1.toks) fun b o e=>hx' b o (aY (aV e)) e
 show wpAny _ _ (assignInOrder [fun v=>bindName X.env y v,fun v=>bindName X.env x v] [u2,u1] >>=fun _=>pure Flow.next) _ _ _
 refine dM (assignInOrder_cons (wpAny_bindName (ad2 I3 hN hj (.inl hy) rw' (fun s2 I4=>?_) (.inr hy))))
 refine assignInOrder_cons (wpAny_bindName (ad2 I4 hN hi (.inl hx) rv (fun s3 I5=>assignInOrder_nil (dY ?_)) (.inr hx)))
 rw[List.set_comm _ _ (Ne.symm hij)] at I5
 exact⟨_,H1,I5,q1⟩
end
section
variable{X:Cx}{pos:Pos}
noncomputable def asI(c:TT)(tb:TS):TS:=fun D σ H=>∃W:Nat->St->Hp->Prop,(∃m,W m σ H)/\∀m σ H,W m σ H->
 c σ H fun b H1=>if b=true then ∃N:St->Hp->Prop,(∀σ' H',N σ' H'->∃m',m'<m/\W m' σ' H')/\tb {D with nx:=N,ct:=N,bk:=D.nx} σ H1 else D.nx σ H1
theorem axT{c:Expr}{body:List Stmt}{tc:TT}{tb:TS}(hp:PassesOwn (model X.prog X.w) X.A X.env X.xe)(hc:PT X c tc)(hb:PSs X body tb):PS X (.While c body [] pos) (asI tc tb):=by
 intro pins s σ H D I h
 obtain⟨W,⟨m0,w0⟩,turn⟩:=h
 refine wpAny_While (codeAny_whileLoop (fun n s'=>∃σ' H',Inv X pins σ' H' s'/\W n σ' H') ?_ m0 ⟨σ,H,I,w0⟩)
 rintro n s1 ⟨σ1,H1,I1,w1⟩
 refine dJ hp (thn (hc pins s1 σ1 H1 _ I1 (turn n σ1 H1 w1)) fun b s2 ⟨H2,I2,q2⟩=>?_)
 cases b with
 |true=>
  obtain⟨N,hN,q2⟩:=q2
  rw[if_pos rfl]
  refine dJ hp (thn (hb pins s2 σ1 H2 _ I2 q2) fun f s3 q3=>?_)
  cases f with
  |next=>
   obtain⟨σ3,H3,I3,n3⟩:=q3
   obtain⟨m',hm,w3⟩:=hN σ3 H3 n3
   exact⟨m',hm,σ3,H3,I3,w3⟩
  |cont=>
   obtain⟨σ3,H3,I3,n3⟩:=q3
   obtain⟨m',hm,w3⟩:=hN σ3 H3 n3
   exact⟨m',hm,σ3,H3,I3,w3⟩
  |brk=>exact q3
  |ret v=>exact q3
 |false=>
  rw[if_neg a9]
  exact wpAny_execs_nil ⟨σ1,H2,I2,q2⟩
end
structure It where
 go:Nat->Hp->Prop
 yld:Nat->Hp->V->Hp->Prop
 stop:Nat->Hp->Prop
noncomputable def adB(X:Cx)(pins:List (Addr×Obj))(H:Hp)(b:Addr):Prop:=
 H b=none/\b≠X.env.locals/\b∉X.fs/\(b∈X.ex∨X.s₀.heap.objs.size<=b)/\(∀x c,X.env.cells.lookup x=some c->c≠b)/\∀p∈X.pn++pins,p.1≠b
theorem Inv.fpOk{X:Cx}{pins:List (Addr×Obj)}{σ:St}{H H':Hp}{s:Shared}{b:Addr}(I:Inv X pins σ H s)(hb:s.heap.objs.size<=b)(hn:H' b=none):adB X pins H' b:=by
 refine⟨hn,Nat.ne_of_gt (aZ I.lt hb),I.nofs hb,.inr (bI I.sz hb),fun x c e z=>?_,fun p hp z=>?_⟩
 ·obtain⟨v,q⟩:=I.cell x c e
  exact absurd (aZ q.lt (by rw[z];exact hb)) (cE _)
 ·exact absurd (aZ (aV (I.pin p hp).1) (by rw[z];exact hb)) (cE _)
structure Turn(P:Program)(w:World)(K:FG)(tg:Expr)(J:It)(fp:List Addr)(it:Addr)(tn:Nat->Heap->Prop):Prop where
 mem:it∈fp
 obj:∀i h,tn i h->∀b∈fp,∃o,h.get? b=some o/\∀v,o.data≠ .cell v
 keep:∀i h h',tn i h->(∀b∈fp,∀o,h.get? b=some o->h'.get? b=some o)->tn i h'
 item:∀(X:Cx),X.prog=P->X.w=w->X.K=K->X.calm=true->∀(i:Nat) (pins:List (Addr×Obj)) (s:Shared) (σ:St) (H:Hp) (E:Value->Shared->Prop),Inv X pins σ H s->(∀b∈fp,adB X pins H b)->tn i s.heap->J.go i H->
  wpAny (model P w) X.A (pyNext (.ref it)) (fun r s1=>∃u,r=some u/\
   wpAny (model P w) X.A (letOwnedTupleGo tg (.ref it) u) (fun _ s2=>∃x H',Inv X pins σ H' s2/\RelV x u/\J.yld i H x H'/\tn (i+1) s2.heap/\∀b∈fp,H' b=none) E s1) E s
 done:∀(X:Cx),X.prog=P->X.w=w->X.K=K->X.calm=true->∀(i:Nat) (pins:List (Addr×Obj)) (s:Shared) (σ:St) (H:Hp) (E:Value->Shared->Prop),Inv X pins σ H s->(∀b∈fp,adB X pins H b)->tn i s.heap->J.stop i H->
  wpAny (model P w) X.A (pyNext (.ref it)) (fun r s1=>r=none/\Inv X pins σ H s1) E s
 self:∀(A:Around) (i:Nat) (s:Shared) (Q:Value->Shared->Prop) (E:Value->Shared->Prop),tn i s.heap->Q (.ref it) s->wpAny (model P w) A (pyIter (.ref it)) Q E s
noncomputable abbrev TI:=St->Hp->(It->Hp->Prop)->Prop
noncomputable def PIE(X:Cx)(pins:List (Addr×Obj))(σ:St)(tg:Expr)(R:It->Hp->Prop)(itv:Value)(s2:Shared):Prop:=
 ∃(it:Addr) (fp:List Addr) (tn:Nat->Heap->Prop) (J:It) (H':Hp),itv=.ref it/\Inv X pins σ H' s2/\Turn X.prog X.w X.K tg J fp it tn/\tn 0 s2.heap/\(∀b∈fp,adB X pins H' b)/\R J H'
noncomputable def PI(X:Cx)(tg iter:Expr)(wi:TI):Prop:=
 ∀(pins:List (Addr×Obj)) (s:Shared) (σ:St) (H:Hp) (R:It->Hp->Prop),Inv X pins σ H s->wi σ H R->
  wpAny (model X.prog X.w) X.A (eval iter X.env) (fun v s1=>wpAny (model X.prog X.w) X.A (pyIter v) (PIE X pins σ tg R) X.xe s1) X.xe s
theorem ap2{M:Model}{A:Around}{E:Value->Shared->Prop}{s:Shared}{tg:Expr}{it:Addr}{u:Value}{o:Obj}{n:String}{vs:Array Value}{Q:Unit->Shared->Prop}(ho:s.heap.get? it=some o)(hc:o.cls=.type n)(hd:o.data=.fields vs)
  (hn:["enumerate","zip","dict_itemiterator","dict_reverseitemiterator","odict_iterator","itertools.zip_longest","itertools.pairwise"].contains n=false) (hQ:Q () s):wpAny M A (letOwnedTupleGo tg (.ref it) u) Q E s:=by
 unfold letOwnedTupleGo
 cases tg<;>first
  |exact dY hQ
  |(cases u<;>first
    |exact dY hQ
    |(refine dM (wpAny_load ho ?_)
      rw[hc,hd]
      show wpAny M A (if (["enumerate","zip","dict_itemiterator","dict_reverseitemiterator","odict_iterator","itertools.zip_longest","itertools.pairwise"].contains n&&vs[0]? ==some (rawInt _))=true then _ else _) Q E s
      rw[if_neg (by intro h;rw[hn,Bool.false_and] at h;cases h)]
      exact dY hQ))
noncomputable def Itl(K:FG)(a:Addr):It:=
 ⟨fun i H=>∃xs x,SqL K H a xs/\xs[i]? =some x,fun i H x H'=>H'=H/\∀xs,SqL K H a xs->xs[i]? =some x,fun i H=>∃xs,SqL K H a xs/\xs.length<=i⟩
noncomputable def Itt(K:FG)(a:Addr):It:=
 ⟨fun i H=>∃xs x,SqT K H a xs/\xs[i]? =some x,fun i H x H'=>H'=H/\∀xs,SqT K H a xs->xs[i]? =some x,fun i H=>∃xs,SqT K H a xs/\xs.length<=i⟩
noncomputable def Itr(lo:Int)(n:Nat):It:=⟨fun i _=>i<n,fun i H x H'=>H'=H/\x=.int (lo+i),fun i _=>n<=i⟩
theorem au9{P:Program}{w:World}{K:FG}{tg:Expr}(a it:Addr):Turn P w K tg (Itl K a) [it] it (fun i h=>h.IsListIter it a i) where
 mem:=by simp
 obj:=fun i h st b hb=>by
  have e:b=it:=by simpa using hb
  subst e
  obtain⟨o,e,c,d⟩:=st
  exact⟨o,e,fun v z=>by rw[d] at z;cases z⟩
 keep:=fun i h h' st k=>st.at fun o e=>k it (by simp) o e
 item:=by
  intro X hP hw hK hc i pins s σ H E I hf st hg
  subst hP hw hK
  obtain⟨xs,x,hq,hx⟩:=hg
  obtain⟨its,rv,p,hz⟩:=I.list hq
  obtain⟨u,hu,ru⟩:=rv.get hx
  obtain⟨f0,f1,f2,f3,f4,f5⟩:=hf it (by simp)
  refine wpAny_pyNext_list_item st p.isList (x:=u) (by simpa using hu) fun h' st' sb=>?_
  have I1:Inv X pins σ H {s with heap:=h'}:=I.turned (t':=s.toks) (fun b o hb e=>(sb.2 b hb).trans e) f0 f1 f3 f4 f5
  obtain⟨o,e,c,d⟩:=id st'
  exact⟨u,rfl,ap2 (s:={s with heap:=h'}) e c d (by decide) ⟨x,H,I1,ru,⟨rfl,fun ys hy=>by rw[I.list_inj hy hq];exact hx⟩,st',fun b hb=>(hf b hb).1⟩⟩
 done:=by
  intro X hP hw hK hc i pins s σ H E I hf st hg
  subst hP hw hK
  obtain⟨xs,hq,hx⟩:=hg
  obtain⟨its,rv,p,hz⟩:=I.list hq
  obtain⟨f0,f1,f2,f3,f4,f5⟩:=hf it (by simp)
  have hl:=rv.length
  exact wpAny_pyNext_list_end (I.ok.hd hc) st p.isList (by simp;omega) fun h' eb=>⟨rfl,I.turned (t':=s.toks) (fun b o hb e=>eb b o hb e) f0 f1 f3 f4 f5⟩
 self:=fun _ _ _ _ _ st h=>wpAny_pyIter_listiter st h
theorem asV{P:Program}{w:World}{K:FG}{tg:Expr}(a it:Addr):Turn P w K tg (Itt K a) [it] it (fun i h=>h.IsTupleIter it a i) where
 mem:=by simp
 obj:=fun i h st b hb=>by
  have e:b=it:=by simpa using hb
  subst e
  obtain⟨o,e,c,d⟩:=st
  exact⟨o,e,fun v z=>by rw[d] at z;cases z⟩
 keep:=fun i h h' st k=>st.at fun o e=>k it (by simp) o e
 item:=by
  intro X hP hw hK hc i pins s σ H E I hf st hg
  subst hP hw hK
  obtain⟨xs,x,hq,hx⟩:=hg
  obtain⟨its,rv,p,hz⟩:=I.tuple hq
  obtain⟨u,hu,ru⟩:=rv.get hx
  obtain⟨f0,f1,f2,f3,f4,f5⟩:=hf it (by simp)
  refine wpAny_pyNext_tuple_item st (show s.heap.IsTuple a its.toArray from p) (x:=u) (by simpa using hu) fun h' st' sb=>?_
  have I1:Inv X pins σ H {s with heap:=h'}:=I.turned (t':=s.toks) (fun b o hb e=>(sb.2 b hb).trans e) f0 f1 f3 f4 f5
  obtain⟨o,e,c,d⟩:=id st'
  exact⟨u,rfl,ap2 (s:={s with heap:=h'}) e c d (by decide) ⟨x,H,I1,ru,⟨rfl,fun ys hy=>by rw[I.tuple_inj hy hq];exact hx⟩,st',fun b hb=>(hf b hb).1⟩⟩
 done:=by
  intro X hP hw hK hc i pins s σ H E I hf st hg
  subst hP hw hK
  obtain⟨xs,hq,hx⟩:=hg
  obtain⟨its,rv,p,hz⟩:=I.tuple hq
  obtain⟨f0,f1,f2,f3,f4,f5⟩:=hf it (by simp)
  have hl:=rv.length
  exact wpAny_pyNext_tuple_end (I.ok.hd hc) st (show s.heap.IsTuple a its.toArray from p) (by simp;omega) fun h' eb=>⟨rfl,I.turned (t':=s.toks) (fun b o hb e=>eb b o hb e) f0 f1 f3 f4 f5⟩
 self:=fun _ _ _ _ _ st h=>wpAny_pyIter_tupleiter st h
theorem ar2{P:Program}{w:World}{K:FG}{tg:Expr}(it:Addr)(lo:Int)(n:Nat):Turn P w K tg (Itr lo n) [it] it (fun i h=>IsRangeIter h it (lo+(i:Nat)*1) ((n:Int)-(i:Nat)) 1) where
 mem:=by simp
 obj:=fun i h st b hb=>by
  have e:b=it:=by simpa using hb
  subst e
  exact⟨_,st,fun v z=>by
   have z':Data.fields _=Data.cell v:=z
   cases z'⟩
 keep:=fun i h h' st k=>k it (by simp) _ st
 item:=by
  intro X hP hw hK hc i pins s σ H E I hf st hg
  subst hP hw hK
  obtain⟨f0,f1,f2,f3,f4,f5⟩:=hf it (by simp)
  have W:=Walks.range (prog:=X.prog) (w:=X.w) (I.ok.hd hc) it lo 1 n
  refine W.item i s _ _ hg st fun v h' tk hv st' kk=>?_
  obtain⟨t,rfl⟩:=hv
  have I1:Inv X pins σ H {s with heap:=h',toks:=tk}:=I.turned (fun b o hb e=>kk b o (by simpa using hb) e) f0 f1 f3 f4 f5
  refine⟨_,rfl,ap2 (s:={s with heap:=h',toks:=tk}) (n:="range_iterator") st' rfl rfl (by decide) ⟨.int (lo+i),H,I1,⟨t,?_⟩,⟨rfl,rfl⟩,st',fun b hb=>(hf b hb).1⟩⟩
  rw[Int.mul_one]
 done:=by
  intro X hP hw hK hc i pins s σ H E I hf st hg
  subst hP hw hK
  obtain⟨f0,f1,f2,f3,f4,f5⟩:=hf it (by simp)
  exact wpAny_pyNext_range_end (I.ok.hd hc) st (by have:n<=i:=hg;omega) fun h' eb=>⟨rfl,I.turned (t':=s.toks) (fun b o hb e=>eb b o hb e) f0 f1 f3 f4 f5⟩
 self:=fun _ _ _ _ _ st h=>wpAny_pyIter_rangeiter st h
section
variable{X:Cx}{tg:Expr}
noncomputable def aBR(K:FG)(tl:TE):TI:=fun σ H R=>tl σ H fun x H1=>∃a,x=.ref a/\(∃xs,SqL K H1 a xs)/\R (Itl K a) H1
noncomputable def aEO(K:FG)(tl:TE):TI:=fun σ H R=>tl σ H fun x H1=>∃a,x=.ref a/\(∃xs,SqT K H1 a xs)/\R (Itt K a) H1
theorem azW{l:Expr}{tl:TE}(hl:PE X l tl):PI X tg l (aBR X.K tl):=by
 intro pins s σ H R I h
 refine thn (hl pins s σ H _ I h) fun v s1 ⟨x,H1,I1,r1,q1⟩=>?_
 obtain⟨a,e,⟨xs,hq⟩,q⟩:=q1
 subst e
 cases r1
 obtain⟨its,rv,p,hz⟩:=I1.list hq
 refine wpAny_pyIter_list p.isList ?_
 refine⟨s1.heap.objs.size,[s1.heap.objs.size],_,_,H1,rfl,I1.kept (t':=s1.toks) fun b o e=>a8 _ e,au9 a _,⟨_,bK _ rfl,rfl,rfl⟩,fun b hb=>?_,q⟩
 have e:b=s1.heap.objs.size:=by simpa using hb
 subst e
 exact I1.fpOk (aS _) (I1.hok.fresh (aS _))
theorem aC9{l:Expr}{tl:TE}(hl:PE X l tl):PI X tg l (aEO X.K tl):=by
 intro pins s σ H R I h
 refine thn (hl pins s σ H _ I h) fun v s1 ⟨x,H1,I1,r1,q1⟩=>?_
 obtain⟨a,e,⟨xs,hq⟩,q⟩:=q1
 subst e
 cases r1
 obtain⟨its,rv,p,hz⟩:=I1.tuple hq
 refine wpAny_pyIter_tuple (show s1.heap.IsTuple a its.toArray from p) ?_
 refine⟨s1.heap.objs.size,[s1.heap.objs.size],_,_,H1,rfl,I1.kept (t':=s1.toks) fun b o e=>a8 _ e,asV a _,⟨_,bK _ rfl,rfl,rfl⟩,fun b hb=>?_,q⟩
 have e:b=s1.heap.objs.size:=by simpa using hb
 subst e
 exact I1.fpOk (aS _) (I1.hok.fresh (aS _))
theorem arH{pins:List (Addr×Obj)}{σ:St}{H:Hp}{s:Shared}{R:It->Hp->Prop}{E:Value->Shared->Prop}{lo hi:Int}{t u v:Tok}{tk:Nat}(I:Inv X pins σ H s)(h1: -(2^62)<=lo)(h2:lo<2^62)(h3: -(2^62)<=hi)(h4:hi<2^62)
  (q:R (Itr lo (hi-lo).toNat) H):wpAny (model X.prog X.w) X.A (pyIter (.ref s.heap.objs.size)) (PIE X pins σ tg R) E {s with heap:=s.heap.push {cls:=.type "range",data:=.fields #[.int lo t,.int hi u,.int 1 v]},toks:=tk}:=by
 refine wpAny_pyIter_range (IsRange.new ..) (small_one h1 h2 h3 h4) ?_
 have I1:Inv X pins σ H {s with heap:=s.heap.push {cls:=.type "range",data:=.fields #[.int lo t,.int hi u,.int 1 v]},toks:=tk}:=I.kept fun b o e=>a8 _ e
 refine⟨(s.heap.push {cls:=.type "range",data:=.fields #[.int lo t,.int hi u,.int 1 v]}).objs.size,[(s.heap.push {cls:=.type "range",data:=.fields #[.int lo t,.int hi u,.int 1 v]}).objs.size],_,_,H,rfl,
  I1.kept (t':=tk) fun b o e=>a8 _ e,ar2 _ lo (hi-lo).toNat,?_,fun b hb=>?_,q⟩
 ·have e1:lo+((0:Nat):Int)*1=lo:=by simp
  have e2:(((hi-lo).toNat:Nat):Int)-((0:Nat):Int)=Builtin.Range.rangeSize lo hi 1:=by rw[rangeSize_one];split<;>omega
  show IsRangeIter _ _ (lo+((0:Nat):Int)*1) ((((hi-lo).toNat:Nat):Int)-((0:Nat):Int)) 1
  rw[e1,e2]
  exact bK _ rfl
 ·have e:b=(s.heap.push {cls:=.type "range",data:=.fields #[.int lo t,.int hi u,.int 1 v]}).objs.size:=by simpa using hb
  subst e
  exact I1.fpOk (aS _) (I1.hok.fresh (aS _))
noncomputable def aBI(ta:TA):TI:=fun σ H R=>ta σ H fun vs H1=>∃j:Int,vs=[.int j]/\ -(2^62)<=j/\j<2^62/\R (Itr 0 j.toNat) H1
noncomputable def aA4(ta:TA):TI:=fun σ H R=>ta σ H fun vs H1=>∃i j:Int,vs=[.int i,.int j]/\(-(2^62)<=i/\i<2^62/\ -(2^62)<=j/\j<2^62)/\R (Itr i (j-i).toNat) H1
theorem av3{a:Expr}{ta:TA}{p pos:Pos}(hg:Gl X "range")(hm:X.mg "range"=none)(ha:PA X [a] ta)(hs:starEach [a] X.env=[(false,eval a X.env)]:=by rfl):PI X tg (.Call (.Name "range" p) [a] [] pos) (aBI ta):=by
 intro pins s σ H R I h
 refine Call_ (ahQ I hg hm boot_range (PyProof.Rows.callWith_type1 (thn (ha pos pins s σ H _ I h) fun us s1 ⟨vs,H1,I1,r1,q1⟩=>?_) hs rfl))
 obtain⟨j,e,q1,q2,q⟩:=q1
 subst e
 cases r1 with
 |cons r rr=>
  cases rr
  obtain⟨t,rfl⟩:=r
  exact call_range_1 (arH I1 (by omega) (by omega) q1 q2 (by simpa using q))
theorem avI{a b:Expr}{ta:TA}{p pos:Pos}(hg:Gl X "range")(hm:X.mg "range"=none)(ha:PA X [a,b] ta)(hs:starEach [a,b] X.env=[(false,eval a X.env),(false,eval b X.env)]:=by rfl)(hs2:starEach [b] X.env=[(false,eval b X.env)]:=by rfl):
  PI X tg (.Call (.Name "range" p) [a,b] [] pos) (aA4 ta):=by
 intro pins s σ H R I h
 refine Call_ (ahQ I hg hm boot_range (PyProof.Rows.callWith_type1 (thn (ha pos pins s σ H _ I h) fun us s1 ⟨vs,H1,I1,r1,q1⟩=>?_) (by rw[hs,hs2]) (by rw[hs2];rfl)))
 obtain⟨i,j,e,⟨q1,q2,q3,q4⟩,q⟩:=q1
 subst e
 cases r1 with
 |cons r rr=>
  cases rr with
  |cons r' rr=>
   cases rr
   obtain⟨t,rfl⟩:=r
   obtain⟨t',rfl⟩:=r'
   exact call_range_2 (arH I1 q1 q2 q3 q4 q)
noncomputable def aIO(wi:TI)(g:TG)(tb:TS):TS:=fun D σ H=>wi σ H fun J H1=>∃W:Nat->Nat->St->Hp->Prop,(∃m,W 0 m σ H1)/\∀i m σ H,W i m σ H->
 (J.stop i H/\D.nx σ H)∨(J.go i H/\∃N:St->Hp->Prop,(∀σ' H',N σ' H'->∃m',m'<m/\W (i+1) m' σ' H')/\∀x H',J.yld i H x H'->g x σ H' fun σ2 H2=>tb {D with nx:=N,ct:=N,bk:=D.nx} σ2 H2)
noncomputable def af0(fp:List Addr)(h:Heap):List (Addr×Obj):=fp.filterMap fun b=>(h.get? b).map fun o=>(b,o)
theorem abX{fp:List Addr}{h:Heap}{b:Addr}{o:Obj}(hb:b∈fp)(e:h.get? b=some o):(b,o)∈af0 fp h:=List.mem_filterMap.mpr ⟨b,hb,by rw[e];rfl⟩
theorem auW{fp:List Addr}{h:Heap}{p:Addr×Obj}(hp:p∈af0 fp h):p.1∈fp/\h.get? p.1=some p.2:=by
 obtain⟨b,hb,e⟩:=List.mem_filterMap.mp hp
 cases q:h.get? b with
 |none=>rw[q] at e;cases e
 |some o=>
  rw[q] at e
  have e':(b,o)=p:=bA e
  subst e'
  exact⟨hb,q⟩
theorem Inv.pinned{pins:List (Addr×Obj)}{σ:St}{H:Hp}{s:Shared}{fp:List Addr}(I:Inv X pins σ H s)(hf:∀b∈fp,adB X pins H b)(ho:∀b∈fp,∃o,s.heap.get? b=some o/\∀v,o.data≠ .cell v):Inv X (pins++af0 fp s.heap) σ H s:=
 I.pins_of fun p hp=>(bM.mp hp).elim (fun z=>I.pin p (bN _ z)) fun z=>by
  obtain⟨hb,e⟩:=auW z
  obtain⟨f0,f1,f2,_⟩:=hf p.1 hb
  obtain⟨o,e',d⟩:=ho p.1 hb
  rw[e] at e';cases e'
  exact⟨e,f0,f1,f2,d⟩
theorem Inv.unpinned{pins pl:List (Addr×Obj)}{σ:St}{H:Hp}{s:Shared}(I:Inv X (pins++pl) σ H s):Inv X pins σ H s:=I.pins_of fun p hp=>I.pin p (bN _ (List.mem_append_left _ hp))
theorem aB9{iter:Expr}{body:List Stmt}{wi:TI}{g:TG}{tb:TS}{pos:Pos}(hp:PassesOwn (model X.prog X.w) X.A X.env X.xe)(hc:X.calm=true)(hi:PI X tg iter wi)(hg:PG X tg g)(hb:PSs X body tb)
  (hs:∀x,foldedSetIterable iter X.env x=pure x:=by intro _;rfl):PS X (.For tg iter body [] pos) (aIO wi g tb):=by
 intro pins s σ H D I h
 refine wpAny_For (thn (hi pins s σ H _ I h) fun v s1 h1=>thn h1 fun itv s2 h2=>?_) hs
 obtain⟨it,fp,tn,J,H2,e,I2,T,st2,f2,W,⟨m0,w0⟩,turn⟩:=h2
 subst e
 -- what stays true of the iterator's objects through the loop
 have stat:∀{H':Hp},(∀b∈fp,H' b=none)->∀b∈fp,adB X pins H' b:=fun hn b hb=>⟨hn b hb,(f2 b hb).2⟩
 refine codeAny_forLoop_any (fun n s'=>∃i σ' H',Inv X pins σ' H' s'/\tn i s'.heap/\(∀b∈fp,H' b=none)/\W i n σ' H') ?_ m0 ⟨0,σ,H2,I2,st2,fun b hb=>(f2 b hb).1,w0⟩
 rintro n s3 ⟨i,σ3,H3,I3,st3,fr3,w3⟩
 rcases turn i n σ3 H3 w3 with ⟨stop,qn⟩ | ⟨go,N,hN,step⟩
 ·refine dJ hp (thn (T.done X rfl rfl rfl hc i pins s3 σ3 H3 X.xe I3 (stat fr3) st3 stop) fun r s4 ⟨hr,I4⟩=>?_)
  subst hr
  exact wpAny_execs_nil ⟨σ3,H3,I4,qn⟩
 ·refine dJ hp (thn (T.item X rfl rfl rfl hc i pins s3 σ3 H3 X.xe I3 (stat fr3) st3 go) fun r s4 ⟨u,hr,h4⟩=>?_)
  subst hr
  refine dJ hp (thn h4 fun _ s5 ⟨x,H5,I5,r5,y5,st5,fr5⟩=>?_)
  have I5':=I5.pinned (stat fr5) (T.obj _ _ st5)
  refine dJ hp (thn (hg _ s5 σ3 H5 x u _ I5' r5 (step x H5 y5)) fun _ s6 ⟨σ6,H6,I6,q6⟩=>?_)
  refine dJ hp (thn (hb _ s6 σ6 H6 _ I6 q6) fun f s7 q7=>?_)
  have again:∀{σ7:St} {H7:Hp},Inv X (pins++af0 fp s5.heap) σ7 H7 s7->N σ7 H7->∃m,m<n/\∃i σ' H',Inv X pins σ' H' s7/\tn i s7.heap/\(∀b∈fp,H' b=none)/\W i m σ' H':=fun {σ7 H7} I7 n7=>by
   obtain⟨m',hm,w7⟩:=hN σ7 H7 n7
   refine⟨m',hm,i+1,σ7,H7,I7.unpinned,T.keep _ _ _ st5 fun b hb o e=>(I7.pin (b,o) (bN _ (bN _ (abX hb e)))).1,fun b hb=>?_,w7⟩
   obtain⟨o,e,d⟩:=T.obj _ _ st5 b hb
   exact (I7.pin (b,o) (bN _ (bN _ (abX hb e)))).2.1
  cases f with
  |next=>obtain⟨σ7,H7,I7,n7⟩:=q7;exact again I7 n7
  |cont=>obtain⟨σ7,H7,I7,n7⟩:=q7;exact again I7 n7
  |brk=>obtain⟨σ7,H7,I7,q7⟩:=q7;exact⟨σ7,H7,I7.unpinned,q7⟩
  |ret v=>obtain⟨x7,σ7,H7,I7,r7,q7⟩:=q7;exact⟨x7,σ7,H7,I7.unpinned,r7,q7⟩
end
theorem ag0{K:FG}{a:Addr}{xs:List V}{g:TG}{tb:TS}{D:Ends}{σ:St}{H:Hp}(Pv:Nat->St->Hp->Prop)(h0:Pv 0 σ H)(hl:∀i σ H,i<=xs.length->Pv i σ H->SqL K H a xs)
  (hs:∀i x σ H,xs[i]? =some x->Pv i σ H->g x σ H fun σ2 H2=>tb {D with nx:=Pv (i+1),ct:=Pv (i+1),bk:=D.nx} σ2 H2) (hd:∀σ H,Pv xs.length σ H->D.nx σ H):
  ∃W:Nat->Nat->St->Hp->Prop,(∃m,W 0 m σ H)/\∀i m σ H,W i m σ H->
   ((Itl K a).stop i H/\D.nx σ H)∨((Itl K a).go i H/\∃N:St->Hp->Prop,(∀σ' H',N σ' H'->∃m',m'<m/\W (i+1) m' σ' H')/\∀x H',(Itl K a).yld i H x H'->g x σ H' fun σ2 H2=>tb {D with nx:=N,ct:=N,bk:=D.nx} σ2 H2):=by
 refine⟨fun i m σ H=>m=xs.length-i/\i<=xs.length/\Pv i σ H,⟨xs.length,by simp,bO _,h0⟩,?_⟩
 rintro i m σ H ⟨rfl,hi,p⟩
 have q:=hl i σ H hi p
 by_cases hlt:i<xs.length
 ·refine .inr ⟨⟨xs,xs[i],q,by simp[hlt]⟩,Pv (i+1),fun σ' H' p'=>⟨xs.length-(i+1),by omega,rfl,hlt,p'⟩,fun x H' y=>?_⟩
  obtain⟨e,y⟩:=y
  subst e
  exact hs i x σ _ (y xs q) p
 ·have e:i=xs.length:=by omega
  subst e
  exact .inl ⟨⟨xs,q,aS _⟩,hd σ H p⟩
theorem anD{K:FG}{a:Addr}{xs:List V}{g:TG}{tb:TS}{D:Ends}{σ:St}{H:Hp}(Pv:Nat->St->Hp->Prop)(h0:Pv 0 σ H)(hl:∀i σ H,i<=xs.length->Pv i σ H->SqT K H a xs)
  (hs:∀i x σ H,xs[i]? =some x->Pv i σ H->g x σ H fun σ2 H2=>tb {D with nx:=Pv (i+1),ct:=Pv (i+1),bk:=D.nx} σ2 H2) (hd:∀σ H,Pv xs.length σ H->D.nx σ H):
  ∃W:Nat->Nat->St->Hp->Prop,(∃m,W 0 m σ H)/\∀i m σ H,W i m σ H->
   ((Itt K a).stop i H/\D.nx σ H)∨((Itt K a).go i H/\∃N:St->Hp->Prop,(∀σ' H',N σ' H'->∃m',m'<m/\W (i+1) m' σ' H')/\∀x H',(Itt K a).yld i H x H'->g x σ H' fun σ2 H2=>tb {D with nx:=N,ct:=N,bk:=D.nx} σ2 H2):=by
 refine⟨fun i m σ H=>m=xs.length-i/\i<=xs.length/\Pv i σ H,⟨xs.length,by simp,bO _,h0⟩,?_⟩
 rintro i m σ H ⟨rfl,hi,p⟩
 have q:=hl i σ H hi p
 by_cases hlt:i<xs.length
 ·refine .inr ⟨⟨xs,xs[i],q,by simp[hlt]⟩,Pv (i+1),fun σ' H' p'=>⟨xs.length-(i+1),by omega,rfl,hlt,p'⟩,fun x H' y=>?_⟩
  obtain⟨e,y⟩:=y
  subst e
  exact hs i x σ _ (y xs q) p
 ·have e:i=xs.length:=by omega
  subst e
  exact .inl ⟨⟨xs,q,aS _⟩,hd σ H p⟩
theorem abW{lo:Int}{n:Nat}{g:TG}{tb:TS}{D:Ends}{σ:St}{H:Hp}(Pv:Nat->St->Hp->Prop)(h0:Pv 0 σ H)
  (hs:∀i σ H,i<n->Pv i σ H->g (.int (lo+i)) σ H fun σ2 H2=>tb {D with nx:=Pv (i+1),ct:=Pv (i+1),bk:=D.nx} σ2 H2) (hd:∀σ H,Pv n σ H->D.nx σ H):
  ∃W:Nat->Nat->St->Hp->Prop,(∃m,W 0 m σ H)/\∀i m σ H,W i m σ H->
   ((Itr lo n).stop i H/\D.nx σ H)∨((Itr lo n).go i H/\∃N:St->Hp->Prop,(∀σ' H',N σ' H'->∃m',m'<m/\W (i+1) m' σ' H')/\∀x H',(Itr lo n).yld i H x H'->g x σ H' fun σ2 H2=>tb {D with nx:=N,ct:=N,bk:=D.nx} σ2 H2):=by
 refine⟨fun i m σ H=>m=n-i/\i<=n/\Pv i σ H,⟨n,by simp,bO _,h0⟩,?_⟩
 rintro i m σ H ⟨rfl,hi,p⟩
 by_cases hlt:i<n
 ·refine .inr ⟨hlt,Pv (i+1),fun σ' H' p'=>⟨n-(i+1),by omega,rfl,hlt,p'⟩,fun x H' y=>?_⟩
  obtain⟨e,y⟩:=y
  subst e y
  exact hs i σ _ hlt p
 ·have e:i=n:=by omega
  subst e
  exact .inl ⟨aS _,hd σ H p⟩
noncomputable abbrev R2:=V->V->Hp->VK->Prop
noncomputable def OpR(X:Cx)(f:Value->Value->Sem Value)(r:R2):Prop:=
 ∀(pins:List (Addr×Obj)) (s:Shared) (σ:St) (H:Hp) (x y:V) (v u:Value) (Q:VK),Inv X pins σ H s->RelV x v->RelV y u->r x y H Q->
  wpAny (model X.prog X.w) X.A (f v u) (EP X pins σ Q) X.xe s
noncomputable def UnR(X:Cx)(f:Value->Sem Value)(r:V->Hp->VK->Prop):Prop:=
 ∀(pins:List (Addr×Obj)) (s:Shared) (σ:St) (H:Hp) (x:V) (v:Value) (Q:VK),Inv X pins σ H s->RelV x v->r x H Q->
  wpAny (model X.prog X.w) X.A (f v) (EP X pins σ Q) X.xe s
noncomputable def adU(X:Cx)(f:Value)(r:List V->Hp->VK->Prop):Prop:=
 ∀(pins:List (Addr×Obj)) (s:Shared) (σ:St) (H:Hp) (xs:List V) (us:List Value) (Q:VK),Inv X pins σ H s->Vals xs us->r xs H Q->
  wpAny (model X.prog X.w) X.A (call f us) (EP X pins σ Q) X.xe s
noncomputable def tOp(r:R2)(ta tb:TE):TE:=fun σ H Q=>ta σ H fun x H1=>tb σ H1 fun y H2=>r x y H2 Q
noncomputable def tUn(r:V->Hp->VK->Prop)(ta:TE):TE:=fun σ H Q=>ta σ H fun x H1=>r x H1 Q
noncomputable def rI(C:Int->Int->Prop)(g:Int->Int->V):R2:=fun x y H Q=>∃i j,x=.int i/\y=.int j/\C i j/\Q (g i j) H
noncomputable def rI0(g:Int->Int->V):R2:=fun x y H Q=>∃i j,x=.int i/\y=.int j/\Q (g i j) H
noncomputable def rU(g:Int->V):V->Hp->VK->Prop:=fun x H Q=>∃i,x=.int i/\Q (g i) H
section
variable{X:Cx}{a b c:Expr}{ta tb tc:TE}{pos:Pos}
theorem aDA(ha:PE X a ta)(hb:PE X b tb){pins:List (Addr×Obj)}{s:Shared}{σ:St}{H:Hp}{R:V->V->Hp->Prop}(I:Inv X pins σ H s)
  (h:ta σ H fun x H1=>tb σ H1 fun y H2=>R x y H2) {Q:Value->Shared->Prop} {f:Value->Value->Sem Value}
  (hf:∀v u s2 x y H2,Inv X pins σ H2 s2->RelV x v->RelV y u->R x y H2->wpAny (model X.prog X.w) X.A (f v u) Q X.xe s2):
  wpAny (model X.prog X.w) X.A (eval a X.env) (fun v s₁=>wpAny (model X.prog X.w) X.A (eval b X.env) (fun u s₂=>wpAny (model X.prog X.w) X.A (f v u) Q X.xe s₂) X.xe s₁) X.xe s:=by
 refine thn (ha pins s σ H _ I h) fun v s1 ⟨x,H1,I1,r1,q1⟩=>?_
 refine thn (hb pins s1 σ H1 _ I1 q1) fun u s2 ⟨y,H2,I2,r2,q2⟩=>?_
 exact hf v u s2 x y H2 I2 r1 r2 q2
theorem aKE{op:Operator}{r:R2}(ho:OpR X (binaryOp op) r)(ha:PE X a ta)(hb:PE X b tb):PE X (.BinOp a op b pos) (tOp r ta tb):=by
 intro pins s σ H Q I h
 exact wpAny_BinOp (aDA ha hb I h fun v u s2 x y H2 I2 rx ry q=>ho pins s2 σ H2 x y v u Q I2 rx ry q)
theorem aNB{op:UnaryOp}{r:V->Hp->VK->Prop}(ho:UnR X (unaryOp op) r)(ha:PE X a ta):PE X (.UnaryOp op a pos) (tUn r ta):=by
 intro pins s σ H Q I h
 exact UnaryOp_ (thn (ha pins s σ H _ I h) fun v s1 ⟨x,H1,I1,r1,q1⟩=>ho pins s1 σ H1 x v Q I1 r1 q1)
theorem opI{f:Value->Value->Sem Value}{C:Int->Int->Prop}{g:Int->Int->Int}
  (rule:∀(i j:Int) (t u:Tok) (s:Shared) (Q:Value->Shared->Prop) (E:Value->Shared->Prop),C i j->Q (.int (g i j) s.toks) {s with toks:=s.toks+1}->wpAny (model X.prog X.w) X.A (f (.int i t) (.int j u)) Q E s):
  OpR X f (rI C fun i j=>.int (g i j)):=by
 intro pins s σ H x y v u Q I rx ry h
 obtain⟨i,j,rfl,rfl,hc,q⟩:=h
 obtain⟨t,rfl⟩:=rx
 obtain⟨t',rfl⟩:=ry
 exact rule i j t t' s _ _ hc ⟨.int (g i j),H,I.tok _,⟨_,rfl⟩,q⟩
theorem ay5{f:Value->Value->Sem Value}{g:Int->Int->Int}
  (rule:∀(i j:Int) (t u:Tok) (s:Shared) (Q:Value->Shared->Prop) (E:Value->Shared->Prop),Q (.int (g i j) s.toks) {s with toks:=s.toks+1}->wpAny (model X.prog X.w) X.A (f (.int i t) (.int j u)) Q E s):
  OpR X f (rI0 fun i j=>.int (g i j)):=by
 intro pins s σ H x y v u Q I rx ry h
 obtain⟨i,j,rfl,rfl,q⟩:=h
 obtain⟨t,rfl⟩:=rx
 obtain⟨t',rfl⟩:=ry
 exact rule i j t t' s _ _ ⟨.int (g i j),H,I.tok _,⟨_,rfl⟩,q⟩
theorem aAH{f:Value->Value->Sem Value}{g:Int->Int->Bool}
  (rule:∀(i j:Int) (t u:Tok) (s:Shared) (Q:Value->Shared->Prop) (E:Value->Shared->Prop),Q (.bool (g i j)) s->wpAny (model X.prog X.w) X.A (f (.int i t) (.int j u)) Q E s):
  OpR X f (rI0 fun i j=>.bl (g i j)):=by
 intro pins s σ H x y v u Q I rx ry h
 obtain⟨i,j,rfl,rfl,q⟩:=h
 obtain⟨t,rfl⟩:=rx
 obtain⟨t',rfl⟩:=ry
 exact rule i j t t' s _ _ ⟨.bl (g i j),H,I,rfl,q⟩
noncomputable def aEV(i j:Int):Prop:=0<j/\j<1073741824
noncomputable def az4(i j:Int):Prop:=0<=j/\j<=1000000/\i.natAbs<2^64
noncomputable def CMul(i j:Int):Prop:=(-(2^64)<i/\i<2^64)∨(-(2^64)<j/\j<2^64)
theorem CMul.ok{i j:Int}(h:CMul i j):IntMulOk i j:=by
 rcases h with ⟨h1,h2⟩ | ⟨h1,h2⟩
 ·exact .of_left (intBits_le_64 h1 h2)
 ·exact .of_right (intBits_le_64 h1 h2)
theorem as1(k:Nat):(0:Int)<=2^k:=by
 rw[two_pow_cast]
 exact cV _
theorem aB1:OpR X (binaryOp .Add) (rI0 fun i j=>.int (i+j)):=ay5 fun _ _ _ _ _ _ _ q=>add_int q
theorem aDP:OpR X (binaryOp .Sub) (rI0 fun i j=>.int (i-j)):=ay5 fun _ _ _ _ _ _ _ q=>sub_int q
theorem aCG:OpR X (binaryOp .Mult) (rI CMul fun i j=>.int (i*j)):=opI fun _ _ _ _ _ _ _ hc q=>mul_int q hc.ok
theorem az3:OpR X (binaryOp .FloorDiv) (rI aEV fun i j=>.int (i / j)):=opI fun i j _ _ _ _ _ hc q=>by
 have h1:(0:Int)<j:=hc.1
 have h2:j<1073741824:=hc.2
 exact floordiv_int (by omega) (by rw[Int.fdiv_eq_ediv_of_nonneg i (by omega)];exact q) (.inl (PyProof.noPylong_small (by omega)))
theorem aD8:OpR X (binaryOp .Mod) (rI (fun _ j=>0<j) fun i j=>.int (i%j)):=opI fun i j _ _ _ _ _ hc q=>by
 have h1:(0:Int)<j:=hc
 exact mod_int' (by omega) (by rw[Int.fmod_eq_emod_of_nonneg i (by omega)];exact q)
theorem aB4:OpR X (binaryOp .Pow) (rI az4 fun i j=>.int (i^j.toNat)):=opI fun _ _ _ _ _ _ _ hc q=>pow_int_small hc.1 hc.2.1 hc.2.2 q
theorem aCX:OpR X (binaryOp .LShift) (rI az4 fun i j=>.int (i*2^j.toNat)):=opI fun _ _ _ _ _ _ _ hc q=>lshift_int_small hc.1 hc.2.1 hc.2.2 q
theorem aDL:OpR X (binaryOp .RShift) (rI (fun _ j=>0<=j) fun i j=>.int (i / 2^j.toNat)):=opI fun i j _ _ _ _ _ hc q=>
 rshift_int hc (by rw[Int.fdiv_eq_ediv_of_nonneg i (as1 _)];exact q)
theorem aCQ:OpR X (binaryOp .BitAnd) (rI0 fun i j=>.int (Builtin.bitAnd i j)):=ay5 fun _ _ _ _ _ _ _ q=>and_int q
theorem aOA:OpR X (binaryOp .BitOr) (rI0 fun i j=>.int (Builtin.bitOr i j)):=ay5 fun _ _ _ _ _ _ _ q=>or_int q
theorem unI{f:Value->Sem Value}{g:Int->Int}
  (rule:∀(i:Int) (t:Tok) (s:Shared) (Q:Value->Shared->Prop) (E:Value->Shared->Prop),Q (.int (g i) s.toks) {s with toks:=s.toks+1}->wpAny (model X.prog X.w) X.A (f (.int i t)) Q E s):
  UnR X f (rU fun i=>.int (g i)):=by
 intro pins s σ H x v Q I rx h
 obtain⟨i,rfl,q⟩:=h
 obtain⟨t,rfl⟩:=rx
 exact rule i t s _ _ ⟨.int (g i),H,I.tok _,⟨_,rfl⟩,q⟩
theorem aED:UnR X (unaryOp .USub) (rU fun i=>.int (-i)):=unI fun _ _ _ _ _ q=>neg_int q
end
noncomputable def aN5:V->V->Bool
 |.non,.non=>true | .non,.int _=>true | .int _,.non=>true | .non,.bl _=>true | .bl _,.non=>true | .non,.str _=>true | .str _,.non=>true
 |.int _,.int _=>true | .bl _,.bl _=>true | .str _,.str _=>true | .byt _,.byt _=>true
 |.int _,.str _=>true | .str _,.int _=>true | .bl _,.str _=>true | .str _,.bl _=>true
 |_,_=>false
noncomputable def rEq:R2:=fun x y H Q=>aN5 x y=true/\Q (.bl (decide (x=y))) H
noncomputable def rNe:R2:=fun x y H Q=>aN5 x y=true/\Q (.bl (!decide (x=y))) H
theorem at4{i j:Int}:decide (V.int i=V.int j)=(i==j):=by
 rw[cQ]
 simp
theorem ayO{i j:Bool}:decide (V.bl i=V.bl j)=(i==j):=by
 rw[cQ]
 simp
theorem at8{i j:Str}:decide (V.str i=V.str j)=(i==j):=by
 rw[cQ]
 simp
theorem atV{i j:Array UInt8}:decide (V.byt i=V.byt j)=(i.toList==j.toList):=by
 rw[cQ]
 cases i
 cases j
 simp
section
variable{X:Cx}{a b c:Expr}{ta tb tc:TE}{pos:Pos}
theorem aaQ{pins:List (Addr×Obj)}{σ:St}{H:Hp}{s:Shared}{Q:VK}{k k':Bool}(I:Inv X pins σ H s)(q:Q (.bl k) H)(e:k=k'):EP X pins σ Q (.bool k') s:=by
 subst e
 exact⟨.bl k,H,I,rfl,q⟩
theorem aIW:OpR X (compareOp .Eq) rEq:=by
 intro pins s σ H x y v u Q I rx ry h
 obtain⟨hs,q⟩:=h
 cases x with
 |non=>
  cases rx
  cases y with
  |non=>cases ry;exact PySem.EqNone.eq_none_none (aaQ I q (by simp))
  |bl j=>cases ry;exact PySem.EqNone.eq_none_bool (aaQ I q (by simp))
  |int j=>obtain⟨t',rfl⟩:=ry;exact PySem.EqNone.eq_none_int (aaQ I q (by simp))
  |str j=>obtain⟨t',rfl⟩:=ry;exact PySem.EqNone.eq_none_str (aaQ I q (by simp))
  |_=>exact absurd (show false=true from hs) a9
 |bl i=>
  cases rx
  cases y with
  |non=>cases ry;exact PySem.EqNone.eq_bool_none (aaQ I q (by simp))
  |bl j=>cases ry;exact eq_bool (aaQ I q ayO)
  |str j=>obtain⟨t',rfl⟩:=ry;exact PySem.EqMixed.eq_bool_str (aaQ I q (by simp))
  |_=>exact absurd (show false=true from hs) a9
 |int i=>
  obtain⟨t,rfl⟩:=rx
  cases y with
  |non=>cases ry;exact PySem.EqNone.eq_int_none (aaQ I q (by simp))
  |int j=>obtain⟨t',rfl⟩:=ry;exact eq_int (aaQ I q at4)
  |str j=>obtain⟨t',rfl⟩:=ry;exact PySem.EqMixed.eq_int_str (aaQ I q (by simp))
  |_=>exact absurd (show false=true from hs) a9
 |str i=>
  obtain⟨t,rfl⟩:=rx
  cases y with
  |non=>cases ry;exact PySem.EqNone.eq_str_none (aaQ I q (by simp))
  |bl j=>cases ry;exact PySem.EqMixed.eq_str_bool (aaQ I q (by simp))
  |int j=>obtain⟨t',rfl⟩:=ry;exact PySem.EqMixed.eq_str_int (aaQ I q (by simp))
  |str j=>obtain⟨t',rfl⟩:=ry;exact eq_str (aaQ I q at8)
  |_=>exact absurd (show false=true from hs) a9
 |byt i=>
  obtain⟨t,rfl⟩:=rx
  cases y with
  |byt j=>obtain⟨t',rfl⟩:=ry;exact PySem.W.eq_bytes (aaQ I q atV)
  |_=>exact absurd (show false=true from hs) a9
 |_=>cases y<;>exact absurd (show false=true from hs) a9
theorem aOB:OpR X (compareOp .NotEq) rNe:=by
 intro pins s σ H x y v u Q I rx ry h
 obtain⟨hs,q⟩:=h
 cases x with
 |non=>
  cases rx
  cases y with
  |non=>cases ry;exact PySem.EqNone.ne_none_none (aaQ I q (by simp))
  |bl j=>cases ry;exact PySem.EqNone.ne_none_bool (aaQ I q (by simp))
  |int j=>obtain⟨t',rfl⟩:=ry;exact PySem.EqNone.ne_none_int (aaQ I q (by simp))
  |str j=>obtain⟨t',rfl⟩:=ry;exact PySem.EqNone.ne_none_str (aaQ I q (by simp))
  |_=>exact absurd (show false=true from hs) a9
 |bl i=>
  cases rx
  cases y with
  |non=>cases ry;exact PySem.EqNone.ne_bool_none (aaQ I q (by simp))
  |bl j=>cases ry;exact ne_bool (aaQ I q (congrArg not ayO))
  |str j=>obtain⟨t',rfl⟩:=ry;exact PySem.EqMixed.ne_bool_str (aaQ I q (by simp))
  |_=>exact absurd (show false=true from hs) a9
 |int i=>
  obtain⟨t,rfl⟩:=rx
  cases y with
  |non=>cases ry;exact PySem.EqNone.ne_int_none (aaQ I q (by simp))
  |int j=>obtain⟨t',rfl⟩:=ry;exact ne_int (aaQ I q (congrArg not at4))
  |str j=>obtain⟨t',rfl⟩:=ry;exact PySem.EqMixed.ne_int_str (aaQ I q (by simp))
  |_=>exact absurd (show false=true from hs) a9
 |str i=>
  obtain⟨t,rfl⟩:=rx
  cases y with
  |non=>cases ry;exact PySem.EqNone.ne_str_none (aaQ I q (by simp))
  |bl j=>cases ry;exact PySem.EqMixed.ne_str_bool (aaQ I q (by simp))
  |int j=>obtain⟨t',rfl⟩:=ry;exact PySem.EqMixed.ne_str_int (aaQ I q (by simp))
  |str j=>obtain⟨t',rfl⟩:=ry;exact ne_str (aaQ I q (congrArg not at8))
  |_=>exact absurd (show false=true from hs) a9
 |byt i=>
  obtain⟨t,rfl⟩:=rx
  cases y with
  |byt j=>obtain⟨t',rfl⟩:=ry;exact PySem.W.ne_bytes (aaQ I q (congrArg not atV))
  |_=>exact absurd (show false=true from hs) a9
 |_=>cases y<;>exact absurd (show false=true from hs) a9
theorem aKV:OpR X (compareOp .Lt) (rI0 fun i j=>.bl (decide (i<j))):=aAH fun _ _ _ _ _ _ _ q=>lt_int q
theorem aEP:OpR X (compareOp .LtE) (rI0 fun i j=>.bl (decide (i<=j))):=aAH fun _ _ _ _ _ _ _ q=>le_int q
theorem aGS:OpR X (compareOp .Gt) (rI0 fun i j=>.bl (decide (j<i))):=aAH fun _ _ _ _ _ _ _ q=>gt_int q
theorem aGY:OpR X (compareOp .GtE) (rI0 fun i j=>.bl (decide (j<=i))):=aAH fun _ _ _ _ _ _ _ q=>ge_int q
theorem avC:OpR X (compareOp .In) (fun x y H Q=>∃i j,x=.str i/\y=.str j/\Q (.bl (!(Builtin.Str.occurrences j i 0 j.length 1).isEmpty)) H):=by
 intro pins s σ H x y v u Q I rx ry h
 obtain⟨i,j,rfl,rfl,q⟩:=h
 obtain⟨t,rfl⟩:=rx
 obtain⟨t',rfl⟩:=ry
 exact in_str (aaQ I q rfl)
theorem aC0:OpR X (compareOp .Is) (fun x y H Q=>y=.non/\Q (.bl (decide (x=.non))) H):=by
 intro pins s σ H x y v u Q I rx ry h
 obtain⟨rfl,q⟩:=h
 cases ry
 refine is_none_gen (aaQ I q ?_)
 cases x<;>first
  |(cases rx;rfl)
  |(obtain⟨t,rfl⟩:=rx;rfl)
theorem az6:OpR X (compareOp .IsNot) (fun x y H Q=>y=.non/\Q (.bl (!decide (x=.non))) H):=by
 intro pins s σ H x y v u Q I rx ry h
 obtain⟨rfl,q⟩:=h
 cases ry
 refine isnot_none_gen (aaQ I q ?_)
 cases x<;>first
  |(cases rx;rfl)
  |(obtain⟨t,rfl⟩:=rx;rfl)
theorem ayB(b:Expr){op:CmpOp}(h:op≠ .In:=by decide)(h2:op≠ .NotIn:=by decide):behindInMarks op b=false:=by
 have e1:(op==CmpOp.In)=false:=by cases op<;>first | rfl | exact absurd rfl h
 have e2:(op==CmpOp.NotIn)=false:=by cases op<;>first | rfl | exact absurd rfl h2
 cases b<;>simp[behindInMarks,e1,e2]
theorem aAW{op:CmpOp}{r:R2}(ho:OpR X (compareOp op) r)(ha:PE X a ta)(hb:PE X b tb)(hm:behindInMarks op b=false):PE X (.Compare a [op] [b] pos) (tOp r ta tb):=by
 intro pins s σ H Q I h
 exact wpAny_Compare1 (aDA ha hb I h fun v u s2 x y H2 I2 rx ry q=>ho pins s2 σ H2 x y v u Q I2 rx ry q) hm
noncomputable def atX(t:TE):TT:=fun σ H Q=>t σ H fun x H'=>∃k,x=.bl k/\Q k H'
theorem azX{op:CmpOp}{r:R2}(ho:OpR X (compareOp op) r)(ha:PE X a ta)(hb:PE X b tb)(hm:behindInMarks op b=false):PT X (.Compare a [op] [b] pos) (atX (tOp r ta tb)):=by
 intro pins s σ H Q I h
 refine wpAny_isTrue_Compare1 (thn (ha pins s σ H _ I h) fun v s1 ⟨x,H1,I1,r1,q1⟩=>thn (hb pins s1 σ H1 _ I1 q1) fun u s2 ⟨y,H2,I2,r2,q2⟩=>
  thn (ho pins s2 σ H2 x y v u _ I2 r1 r2 q2) fun c s3 ⟨z,H3,I3,r3,k,e,q3⟩=>?_) hm
 subst e
 cases r3
 exact dZ ⟨H3,I3,q3⟩
noncomputable def anH(r r':R2)(ta tb tc:TE):TE:=fun σ H Q=>ta σ H fun x H1=>tb σ H1 fun y H2=>r x y H2 fun z H3=>∃k,z=.bl k/\
 (if k=true then tc σ H3 fun w' H4=>r' y w' H4 Q else Q (.bl false) H3)
theorem ayN{op op':CmpOp}{r r':R2}(ho:OpR X (compareOp op) r)(ho':OpR X (compareOp op') r')(ha:PE X a ta)(hb:PE X b tb)(hc:PE X c tc)
  (hm:lastMarks [op,op'] [b,c]=false:=by with_unfolding_all rfl):PE X (.Compare a [op,op'] [b,c] pos) (anH r r' ta tb tc):=by
 intro pins s σ H Q I h
 refine Compare_chain (thn (ha pins s σ H _ I h) fun v s1 ⟨x,H1,I1,r1,q1⟩=>chain_link (thn (hb pins s1 σ H1 _ I1 q1) fun u s2 ⟨y,H2,I2,r2,q2⟩=>
  thn (ho pins s2 σ H2 x y v u _ I2 r1 r2 q2) fun d s3 ⟨z,H3,I3,r3,k,e,q3⟩=>?_)) hm
 subst e
 cases r3
 refine dZ ?_
 cases k with
 |false=>exact ite_ff ⟨.bl false,H3,I3,rfl,q3⟩
 |true=>exact ite_tt (chain_last (thn (hc pins s3 σ H3 _ I3 q3) fun w' s4 ⟨z',H4,I4,r4,q4⟩=>ho' pins s4 σ H4 y z' u w' Q I4 r2 r4 q4))
theorem ayA{op op':CmpOp}{r r':R2}(ho:OpR X (compareOp op) r)(ho':OpR X (compareOp op') r')(ha:PE X a ta)(hb:PE X b tb)(hc:PE X c tc)
  (hm:lastMarks [op,op'] [b,c]=false:=by with_unfolding_all rfl):PT X (.Compare a [op,op'] [b,c] pos) (atX (anH r r' ta tb tc)):=by
 intro pins s σ H Q I h
 refine isTrue_chain (thn (ha pins s σ H _ I h) fun v s1 ⟨x,H1,I1,r1,q1⟩=>test_link (thn (hb pins s1 σ H1 _ I1 q1) fun u s2 ⟨y,H2,I2,r2,q2⟩=>
  thn (ho pins s2 σ H2 x y v u _ I2 r1 r2 q2) fun d s3 ⟨z,H3,I3,r3,k,e,q3⟩=>?_)) hm
 subst e
 cases r3
 refine dZ ?_
 cases k with
 |false=>
  obtain⟨k',e',q'⟩:=q3
  cases e'
  exact ite_ff ⟨H3,I3,q'⟩
 |true=>
  refine ite_tt (test_last (thn (hc pins s3 σ H3 _ I3 q3) fun w' s4 ⟨z',H4,I4,r4,q4⟩=>thn (ho' pins s4 σ H4 y z' u w' _ I4 r2 r4 q4) fun d' s5 ⟨z2,H5,I5,r5,k2,e2,q5⟩=>?_))
  subst e2
  cases r5
  exact dZ ⟨H5,I5,q5⟩
theorem ahE:(sizeLine:Nat)<2^63:=by rw[dO];decide
theorem as9:OpR X (binaryOp .Add) (fun x y H Q=>∃i j,x=.str i/\y=.str j/\i.length+j.length<=sizeLine/\Q (.str (i++j)) H):=by
 intro pins s σ H x y v u Q I rx ry h
 obtain⟨i,j,rfl,rfl,hz,q⟩:=h
 obtain⟨t,rfl⟩:=rx
 obtain⟨t',rfl⟩:=ry
 exact add_str (fun t' tk=>⟨.str (i++j),H,I.tok _,⟨_,rfl⟩,q⟩) hz
theorem acW{x:V}{us:List Value}(r:Vals [x] us):∃u,us=[u]/\RelV x u:=by
 cases r with
 |cons r1 r2=>cases r2;exact⟨_,rfl,r1⟩
theorem amH{x y:V}{us:List Value}(r:Vals [x,y] us):∃u w',us=[u,w']/\RelV x u/\RelV y w':=by
 cases r with
 |cons r1 r2=>
  cases r2 with
  |cons r3 r4=>cases r4;exact⟨_,_,rfl,r1,r3⟩
theorem awS:adU X (.builtin "abs") (fun xs H Q=>∃i,xs=[.int i]/\Q (.int (if i<0 then -i else i)) H):=by
 intro pins s σ H xs us Q I r h
 obtain⟨i,rfl,q⟩:=h
 obtain⟨u,rfl,t,rfl⟩:=acW r
 exact call_abs_int fun u tk=>⟨.int (if i<0 then -i else i),H,I.tok _,⟨_,rfl⟩,q⟩
theorem avA(hc:X.calm=true):adU X (.builtin "max") (fun xs H Q=>∃i j,xs=[.int i,.int j]/\Q (.int (if j>i then j else i)) H):=by
 intro pins s σ H xs us Q I r h
 obtain⟨i,j,rfl,q⟩:=h
 obtain⟨u,w',rfl,⟨t,rfl⟩,⟨t',rfl⟩⟩:=amH r
 refine max_two_ints (I.ok.hd hc) fun h' tk k=>⟨_,H,I.kept k,?_,q⟩
 by_cases hj:j>i
 ·rw[if_pos hj,if_pos hj];exact⟨_,rfl⟩
 ·rw[if_neg hj,if_neg hj];exact⟨_,rfl⟩
theorem avX(hc:X.calm=true):adU X (.builtin "min") (fun xs H Q=>∃i j,xs=[.int i,.int j]/\Q (.int (if j<i then j else i)) H):=by
 intro pins s σ H xs us Q I r h
 obtain⟨i,j,rfl,q⟩:=h
 obtain⟨u,w',rfl,⟨t,rfl⟩,⟨t',rfl⟩⟩:=amH r
 refine min_two_ints (I.ok.hd hc) fun h' tk k=>⟨_,H,I.kept k,?_,q⟩
 by_cases hj:j<i
 ·rw[if_pos hj,if_pos hj];exact⟨_,rfl⟩
 ·rw[if_neg hj,if_neg hj];exact⟨_,rfl⟩
theorem aoT:adU X (.type "str") (fun xs H Q=>∃i,xs=[.int i]/\i.natAbs.log2<1920/\Q (.str (toString i)) H):=by
 intro pins s σ H xs us Q I r h
 obtain⟨i,rfl,hz,q⟩:=h
 obtain⟨u,rfl,t,rfl⟩:=acW r
 exact PySem.P.str_of_int hz ⟨.str _,H,I.tok _,⟨_,rfl⟩,q⟩
end
structure ObjM(h:Heap)(x dx C:Addr)(mA:Str->Option Value):Prop where
 obj:h.get? x=some (PySem.W.instObj C dx)
 ns:h.Ns1 dx mA
 ne:dx≠x
theorem avO{h:Heap}{dx:Addr}{mA:Str->Option Value}(n:h.Ns1 dx mA):∃od,h.get? dx=some od/\∀name,PySem.W.lookIn name od=some (mA name):=by
 obtain⟨o,es,ep,ho,hd,hk,_,hm⟩:=n
 refine⟨o,ho,fun name=>?_⟩
 have e:=hm name
 unfold nsFind findBy at e
 rw[←Array.find?_toList] at e
 unfold PySem.W.lookIn
 rw[hd]
 dsimp only
 split
 ·rename_i y q
  rw[q] at e
  exact congrArg some e
 ·rename_i q
  rw[q] at e
  have a:es.toList.any (·.refKey)=false:=by
   rw[cW]
   intro y hy
   obtain⟨z,t,hkey⟩:=hk y (Array.mem_toList_iff.mp hy)
   simp[DictEntry.refKey,hkey]
  have a':¬es.toList.any (·.refKey)=true:=by rw[a];exact a9
  rw[if_neg a']
  exact congrArg some e
theorem ObjM.look{h:Heap}{x dx C:Addr}{mA:Str->Option Value}(I:ObjM h x dx C mA):∃od,PySem.W.InstAt h x (PySem.W.instObj C dx) C (some od)/\∀name,PySem.W.lookIn name od=some (mA name):=
 let ⟨od,ho,hl⟩:=avO I.ns
 ⟨od,⟨I.obj,rfl,rfl,ho⟩,hl⟩
section
variable{prog:Program}{w:World}{A:Around}{E:Value->Shared->Prop}{s:Shared}{K:FG}{x dx C f:Addr}{mA:Str->Option Value}{name:Str}{v:Value}
theorem azO{expr:Bool}{Q:Value->Shared->Prop}(X:K.In s.heap)(I:ObjM s.heap x dx C mA)(hg:PySem.W.plainGet K C name=true)(hh:PySem.W.hasDictIn K C=true)
  (ha:PySem.W.findIn K (.ref C) name=some none) (hv:mA name=some v) (hv':PySem.W.handedIn v=true) (h:Q v {s with toks:=s.toks+1}):
  wpAny (model prog w) A (getAttr (.ref x) name expr) Q E s:=by
 obtain⟨od,J,hl⟩:=I.look
 exact PySem.W.get_value X J (PySem.W.plainGet_of hg).1 (PySem.W.findObj_own hh ha rfl (by rw[hl,hv])) hv' h
theorem awM{pl:Sem Bool}{Q:Value×List Value->Shared->Prop}(X:K.In s.heap)(I:ObjM s.heap x dx C mA)(hg:PySem.W.plainGet K C name=true)
  (hf:PySem.W.findIn K (.ref C) name=some (some (.ref f))) (ht:PySem.W.isFn K (.ref f)=true) (hv:mA name=none) (h:Q (.ref f,[.ref x]) s):
  wpAny (model prog w) A (getMethod (.ref x) name pl) Q E s:=by
 obtain⟨od,J,hl⟩:=I.look
 exact PySem.W.method_fn X J (PySem.W.plainGet_of hg).1 (PySem.W.plainGet_of hg).2 hf (beq_iff_eq.mp ht) (by show (PySem.W.lookIn name od).map (·.isSome)=some false;rw[hl,hv];rfl) h
theorem azK{ns:List Str}{Q:Unit->Shared->Prop}(X:K.In s.heap)(I:ObjM s.heap x dx C mA)
  (hs:PySem.W.findIn K (.ref C) "__setattr__"=some (some (.builtin "object.__setattr__"))) (hp:PySem.W.plainOver K C=true) (ht:PySem.W.takerIn K C name=some none) (hh:PySem.W.hasDictIn K C=true)
  (hw:PySem.Within mA ns) (hsz:ns.length<=sizeLine)
  (h:∀h',ObjM h' x dx C (fun y=>if y=name then some v else mA y)->Heap.SameBut dx s.heap h'->Q () {s with heap:=h',toks:=s.toks+2}):
  wpAny (model prog w) A (setAttr (.ref x) name v) Q E s:=by
 obtain⟨od,J,hl⟩:=I.look
 refine PySem.W.set_plain X J hs (PySem.W.osa_open (s:={s with toks:=s.toks+1}) (r:=none) X J hp ht fun b=>?_)
 obtain⟨cd,hc,hd'⟩:=PySem.W.any_some hh
 have hx:s.heap.get? x=some ⟨.ref C,some dx,.plain,#[]⟩:=I.obj
 refine dM (dY (dM (dM (wpAny_loadPart hx (dM (PySem.W.Looks.here (s:={s with toks:=s.toks+1}) (PySem.W.looks_clsIn X hc) ?_))))))
 rw[hd']
 refine dY (a:=some dx) (dM (dY (dM ?_)))
 refine wpAny_nsSet1 (s:={s with toks:=s.toks+1}) I.ns fun h' hn2 hs2=>?_
 obtain⟨oD,esD,epD,hoD,hdD,hcD⟩:=hn2.count (PySem.Within.cons name v hw)
 refine dM (wpAny_lookBehind hoD (by rw[hdD];exact pastItsLine_dict (bI hcD (by rw[bU];omega))) ?_)
 exact dY (h _ ⟨(hs2.2 _ (Ne.symm I.ne)).trans I.obj,hn2,I.ne⟩ hs2)
theorem aw4{R:Result->Shared->Prop}{vs:List Value}{kw:List (Str×Value)}(X:K.In s.heap)(hm:PySem.W.makesIn K C=true)
  (hi:PySem.W.findIn K (.ref C) "__init__"=some (some (.ref f))) (hf:PySem.W.typeIn K (.ref f)=some (.type "function"))
  (h:codeAny (model prog w) (A.under (.builtin "type.__call__" ⟨.ref C::vs,kw⟩)) (.call (.ref f) ⟨.ref (s.heap.objs.size+1)::vs,kw⟩) (PySem.W.InitBack (s.heap.objs.size+1) R)
   {s with heap:=(s.heap.push PySem.W.emptyDict).push (PySem.W.instObj C s.heap.objs.size)}):
  codeAny (model prog w) A (.call (.ref C) ⟨vs,kw⟩) R s:=by
 obtain⟨hh,g,d,t,os⟩:=s
 exact PySem.W.make_core (PySem.W.makes_of X hm) (PySem.W.looks_findIn X hi) (fun self=>PySem.W.bind_fn X self hf) (.inl rfl) h
theorem avR{R:Result->Shared->Prop}(X:K.In s.heap)(hm:PySem.W.makesIn K C=true)
  (hi:PySem.W.findIn K (.ref C) "__init__"=some (some (.builtin "object.__init__")))
  (hb:∀self,PySem.W.Looks (model prog w) s.heap (bindSpecial (.builtin "object.__init__") self) (.builtin "object.__init__",[self]))
  (h:codeAny (model prog w) (A.under (.builtin "type.__call__" ⟨[.ref C],[]⟩)) (.call (.builtin "object.__init__") ⟨[.ref (s.heap.objs.size+1)],[]⟩) (PySem.W.InitBack (s.heap.objs.size+1) R)
   {s with heap:=(s.heap.push PySem.W.emptyDict).push (PySem.W.instObj C s.heap.objs.size)}):
  codeAny (model prog w) A (.call (.ref C) ⟨[],[]⟩) R s:=by
 obtain⟨hh,g,d,t,os⟩:=s
 exact PySem.W.make_core (PySem.W.makes_of X hm) (PySem.W.looks_findIn X hi) hb (.inr ⟨rfl,rfl⟩) h
end
noncomputable def aaR(f:Str)(v:V):List (Str×V)->List (Str×V)
 |[]=>[(f,v)]
 |(g,x)::r=>if g=f then (g,v)::r else (g,x)::aaR f v r
theorem aaE(f g:Str)(v:V):∀fs:List (Str×V),(aaR f v fs).lookup g=if g=f then some v else fs.lookup g
 |[]=>by
  show List.lookup g [(f,v)]=_
  by_cases h:g=f
  ·have hb:(g==f)=true:=beq_iff_eq.mpr h
   simp only[List.lookup,hb,if_pos h]
  ·have hb:(g==f)=false:=beq_eq_false_iff_ne.mpr h
   simp only[List.lookup,hb,if_neg h]
 |(k,x)::r=>by
  have ih:=aaE f g v r
  rw[show aaR f v ((k,x)::r)=(if k=f then (k,v)::r else (k,x)::aaR f v r) from rfl]
  by_cases hk:k=f
  ·rw[if_pos hk]
   by_cases h:g=k
   ·have hb:(g==k)=true:=beq_iff_eq.mpr h
    simp only[List.lookup,hb,if_pos (h.trans hk)]
   ·have hb:(g==k)=false:=beq_eq_false_iff_ne.mpr h
    simp only[List.lookup,hb,if_neg (fun e:g=f=>h (e.trans hk.symm))]
  ·rw[if_neg hk]
   by_cases h:g=k
   ·have hb:(g==k)=true:=beq_iff_eq.mpr h
    simp only[List.lookup,hb,if_neg (fun e:g=f=>hk (h.symm.trans e))]
   ·have hb:(g==k)=false:=beq_eq_false_iff_ne.mpr h
    simp only[List.lookup,hb]
    exact ih
theorem ahI(f:Str)(v:V):∀fs:List (Str×V),f∈(aaR f v fs).map (·.1)/\∀g,g∈fs.map (·.1)->g∈(aaR f v fs).map (·.1)
 |[]=>⟨by simp[aaR],fun g h=>by simp at h⟩
 |(k,x)::r=>by
  obtain⟨i1,i2⟩:=ahI f v r
  rw[show aaR f v ((k,x)::r)=(if k=f then (k,v)::r else (k,x)::aaR f v r) from rfl]
  by_cases hk:k=f
  ·rw[if_pos hk]
   subst hk
   exact⟨by simp,fun g h=>by simpa using h⟩
  ·rw[if_neg hk]
   refine⟨?_,fun g h=>?_⟩
   ·rw[bD]
    exact bY _ i1
   ·rw[bD] at h ⊢
    rcases bB.mp h with e | e
    ·exact bB.mpr (.inl e)
    ·exact bY _ (i2 g e)
theorem aiM(f:Str)(v:V):∀fs:List (Str×V),(aaR f v fs).length<=fs.length+1
 |[]=>by simp[aaR]
 |(k,x)::r=>by
  have ih:=aiM f v r
  rw[show aaR f v ((k,x)::r)=(if k=f then (k,v)::r else (k,x)::aaR f v r) from rfl]
  by_cases hk:k=f
  ·rw[if_pos hk,bU,bU];omega
  ·rw[if_neg hk,bU,bU];omega
theorem RelO.some_of{v:V}{o:Option Value}(r:RelO (some v) o):∃u,o=some u/\RelV v u:=by
 cases o with
 |none=>exact (show False from r).elim
 |some u=>exact⟨u,rfl,r⟩
theorem RelO.none_of{o:Option Value}(r:RelO none o):o=none:=by
 cases o with
 |none=>rfl
 |some u=>exact (show False from r).elim
theorem avU{v:V}{u:Value}(r:RelV v u):PySem.W.handedIn u=true:=by
 cases v with
 |non=>cases (show u=Value.none from r);rfl
 |bl b=>cases (show u=Value.bool b from r);rfl
 |int i=>obtain⟨t,e⟩:=(show ∃t,u=Value.int i t from r);cases e;rfl
 |str x=>obtain⟨t,e⟩:=(show ∃t,u=Value.str x t from r);cases e;rfl
 |byt b=>obtain⟨t,e⟩:=(show ∃t,u=Value.bytes b t from r);cases e;rfl
 |flt b=>obtain⟨t,e⟩:=(show ∃t,u=Value.float b t from r);cases e;rfl
 |ref a=>cases (show u=Value.ref a from r);rfl
 |ty n=>cases (show u=Value.type n from r);rfl
section
variable{P:Program}{w:World}{H H':Hp}{h h':Heap}{a C dx:Addr}{fs fs':List (Str×V)}
theorem aoF(hok:HOk P w H h)(e:H a=some (.ins C dx fs)):∃mA,ObjM h a dx C mA/\(∀f,RelO (fs.lookup f) (mA f))/\PySem.Within mA (fs.map (·.1))/\fs.length<=1000/\H dx=some (.own a):=by
 obtain⟨d,z,ne,ob,mA,n,r,q⟩:=(show ObjOk P w H h a (.ins C dx fs) from hok a _ e)
 exact⟨mA,⟨ob,n,ne⟩,r,q,z,d⟩
end
structure Cls(K:FG)(C:Addr):Prop where
 pg:PySem.W.plainGet K C Str.empty=true
 hd:PySem.W.hasDictIn K C=true
 po:PySem.W.plainOver K C=true
 sa:PySem.W.findIn K (.ref C) "__setattr__"=some (some (.builtin "object.__setattr__"))
theorem Cls.get{K:FG}{C:Addr}(c:Cls K C)(f:Str):PySem.W.plainGet K C f=true:=c.pg
noncomputable def NoAttr(K:FG)(C:Addr)(f:Str):Prop:=PySem.W.findIn K (.ref C) f=some none
theorem NoAttr.taker{K:FG}{C:Addr}{f:Str}(n:NoAttr K C f):PySem.W.takerIn K C f=some none:=by
 unfold PySem.W.takerIn
 rw[show PySem.W.findIn K (.ref C) f=some none from n]
 rfl
structure Meth(K:FG)(C:Addr)(m:Str)(f:Addr):Prop where
 at_:PySem.W.findIn K (.ref C) m=some (some (.ref f))
 fn:PySem.W.isFn K (.ref f)=true
 kp:PySem.W.keepIn K (.ref f)=true
section
variable{X:Cx}{pins:List (Addr×Obj)}{σ:St}{H:Hp}{s:Shared}{a C dx:Addr}{fs:List (Str×V)}{f:Str}{v:V}{A:Around}{E:Value->Shared->Prop}
theorem arY{b:Bool}{Q:Value->Shared->Prop}(I:Inv X pins σ H s)(e:H a=some (.ins C dx fs))(c:Cls X.K C)(n:NoAttr X.K C f)(l:fs.lookup f=some v)
  (h:∀u s',Inv X pins σ H s'->RelV v u->Q u s'):wpAny (model X.prog X.w) A (getAttr (.ref a) f b) Q E s:=by
 obtain⟨mA,O,r,_,_,_⟩:=aoF I.hok e
 obtain⟨u,hu,ru⟩:=RelO.some_of (v:=v) (o:=mA f) (by rw[←l];exact r f)
 exact azO I.kIn O (c.get f) c.hd n hu (avU ru) (h u _ (I.tok _) ru)
theorem asD{m:Str}{g:Addr}{pl:Sem Bool}{Q:Value×List Value->Shared->Prop}(I:Inv X pins σ H s)(e:H a=some (.ins C dx fs))(c:Cls X.K C)(k:Meth X.K C m g)(l:fs.lookup m=none)
  (h:Q (.ref g,[.ref a]) s):wpAny (model X.prog X.w) A (getMethod (.ref a) m pl) Q E s:=by
 obtain⟨mA,O,r,_,_,_⟩:=aoF I.hok e
 have hn:mA m=none:=RelO.none_of (by rw[←l];exact r m)
 exact awM I.kIn O (c.get m) k.at_ k.fn hn h
theorem arZ{y:V}{u:Value}{Q:Unit->Shared->Prop}(I:Inv X pins σ H s)(e:H a=some (.ins C dx fs))(c:Cls X.K C)(n:NoAttr X.K C f)(hl:fs.length<1000)(ry:RelV y u)
  (h:∀s',Inv X pins σ (upd H a (.ins C dx (aaR f y fs))) s'->Q () s'):wpAny (model X.prog X.w) A (setAttr (.ref a) f u) Q E s:=by
 obtain⟨mA,O,r,wi,_,ho⟩:=aoF I.hok e
 have hz:(fs.map (·.1)).length<=sizeLine:=by rw[aU,dO];omega
 refine azK I.kIn O c.sa c.po n.taker c.hd wi hz fun h' O' sb=>h _ ?_
 have hd:∃o,h'.get? dx=some o:=let ⟨o,_,_,e',_⟩:=O'.ns;⟨o,e'⟩
 refine I.write (x:=a) (e:=dx) (by rw[e];exact True.intro) (.inr ho) (fun b q hb z=>(sb.2 b hb).trans z) hd ?_
 refine⟨by rw[aaF O.ne];exact ho,?_,O.ne,O'.obj,_,O'.ns,fun g=>?_,fun g hg=>?_⟩
 ·have:=aiM f y fs;omega
 ·show RelO ((aaR f y fs).lookup g) (if g=f then some u else mA g)
  rw[aaE]
  by_cases q:g=f
  ·rw[if_pos q,if_pos q];exact ry
  ·rw[if_neg q,if_neg q];exact r g
 ·by_cases q:g=f
  ·rw[q];exact (ahI f y fs).1
  ·refine (ahI f y fs).2 g (wi g fun z=>hg ?_)
   show (if g=f then some u else mA g)=none
   rw[if_neg q];exact z
theorem Inv.made(I:Inv X pins σ H s):Inv X pins σ (upd (upd H s.heap.objs.size (.own (s.heap.objs.size+1))) (s.heap.objs.size+1) (.ins C s.heap.objs.size []))
  {s with heap:=(s.heap.push PySem.W.emptyDict).push (PySem.W.instObj C s.heap.objs.size)}:=by
 have e1:(s.heap.push PySem.W.emptyDict).get? s.heap.objs.size=some PySem.W.emptyDict:=bK s.heap rfl
 have e2:((s.heap.push PySem.W.emptyDict).push (PySem.W.instObj C s.heap.objs.size)).get? (s.heap.objs.size+1)=some (PySem.W.instObj C s.heap.objs.size):=by
  have:=bK (s.heap.push PySem.W.emptyDict) (o:=PySem.W.instObj C s.heap.objs.size) rfl
  rwa [Heap.size_push] at this
 have e3:(s.heap.push PySem.W.emptyDict).Ns s.heap.objs.size (fun _=>none):=⟨PySem.W.emptyDict,#[],_,e1,rfl,(fun e he=>absurd he (by simp)),fun _=>rfl⟩
 have I1:=I.laid (a:=s.heap.objs.size) (o:=.own (s.heap.objs.size+1)) (h':=s.heap.push PySem.W.emptyDict) (t':=s.toks) (fun b u q=>a8 _ q) (aS _) ⟨_,e1⟩
 refine I1.laid (a:=s.heap.objs.size+1) (o:=.ins C s.heap.objs.size []) (t':=s.toks) (fun b u q=>a8 _ q) (Nat.le_of_eq (Heap.size_push _ _)) ?_
 have ne:s.heap.objs.size≠s.heap.objs.size+1:=aY (Nat.lt_succ_self _)
 refine⟨by rw[aaF ne,aaA],bO _,ne,e2,fun _=>none,(Heap.Ns1.of_empty e3).at fun o q=>a8 _ q,fun _=>True.intro,fun y hy=>absurd rfl hy⟩
theorem az8{prog:Program}{w:World}{env:Env}{e:Expr}{f:Str}{pos:Pos}{s:Shared}{Q:Value->Shared->Prop}(hb:attributeBase e f env (eval e env)=eval e env)
  (h:wpAny (model prog w) A (eval e env) (fun o s₁=>wpAny (model prog w) A (getAttr o f true) Q E s₁) E s):wpAny (model prog w) A (eval (.Attribute e f pos) env) Q E s:=
 Attribute_any_ h (by rw[arm_eval_Attribute,hb])
end
noncomputable def aDR(K:FG)(ta:TE)(f:Str):TE:=fun σ H Q=>ta σ H fun x H1=>∃a C dx fs v,x=.ref a/\H1 a=some (.ins C dx fs)/\Cls K C/\NoAttr K C f/\fs.lookup f=some v/\Q v H1
noncomputable def aIN(K:FG)(ta tv:TE)(f:Str):TS:=fun D σ H=>tv σ H fun y H1=>ta σ H1 fun x H2=>∃a C dx fs,x=.ref a/\H2 a=some (.ins C dx fs)/\Cls K C/\NoAttr K C f/\fs.length<1000/\
 D.nx σ (upd H2 a (.ins C dx (aaR f y fs)))
section
variable{X:Cx}{o e value:Expr}{f:Str}{pos pos' tpos:Pos}{ta tv:TE}
theorem aB3(he:PE X e ta)(hb:attributeBase e f X.env (eval e X.env)=eval e X.env):PE X (.Attribute e f pos) (aDR X.K ta f):=by
 intro pins s σ H Q I h
 refine az8 hb (thn (he pins s σ H _ I h) fun u s1 ⟨x,H1,I1,rx,a,C,dx,fs,v,ex,ea,c,n,l,q⟩=>?_)
 subst ex
 obtain rfl:u=Value.ref a:=rx
 exact arY I1 ea c n l fun u' s2 I2 ru=>⟨v,H1,I2,ru,q⟩
theorem aC7(ha:PE X o ta)(hv:PE X value tv)(hs:swapsWith value (some (.Attribute o f pos')) pos.line X.env=pure false):PS X (.Assign [.Attribute o f pos'] value pos) (aIN X.K ta tv f):=by
 intro pins s σ H D I h
 refine plainObj_wpAny_Assign_Attribute (thn (hv pins s σ H _ I h) fun u s1 ⟨y,H1,I1,ry,q⟩=>thn (ha pins s1 σ H1 _ I1 q) fun ov s2 ⟨x,H2,I2,rx,a,C,dx,fs,ex,ea,c,n,l,q2⟩=>?_) hs
 subst ex
 obtain rfl:ov=Value.ref a:=rx
 exact arZ I2 ea c n l ry fun s3 I3=>⟨σ,_,I3,q2⟩
end
section
variable{X:Cx}{pins:List (Addr×Obj)}{σ:St}{H:Hp}{s:Shared}{A:Around}{E:Value->Shared->Prop}{Q:Value->Shared->Prop}{c:Value}{b:Bool}
inductive TyOf (K:FG) (H:Hp):V->Value->Prop where
 |non:TyOf K H .non (.type "NoneType")
 |bl (x:Bool):TyOf K H (.bl x) (.type "bool")
 |int (i:Int):TyOf K H (.int i) (.type "int")
 |str (x:Str):TyOf K H (.str x) (.type "str")
 |flt (x:UInt64):TyOf K H (.flt x) (.type "float")
 |lst {a:Addr} {xs:List V} (e:H a=some (.lst xs)):TyOf K H (.ref a) (.type "list")
 |frz {a:Addr} {o:Obj} {xs:List V} (e:H a=some (.frz o (.lst xs))):TyOf K H (.ref a) (.type "list")
 |tup {a:Addr} {xs:List V} (e:H a=some (.tup xs)):TyOf K H (.ref a) (.type "tuple")
 |dK {a:Addr} {kvs:List (Key×V)} (e:H a=some (.dK kvs)):TyOf K H (.ref a) (.type "dict")
 |dT {a:Addr} {kvs:List (List Key×V)} (e:H a=some (.dT kvs)):TyOf K H (.ref a) (.type "dict")
 |ins {a C dx:Addr} {fs:List (Str×V)} (e:H a=some (.ins C dx fs)) (cl:Cls K C) (ha:PySem.W.findIn K (.ref C) "__class__"=some (some (.builtin "object.__class__")))
   (hn:PySem.W.specialIn K (.builtin "object.__class__") "__get__"=some (some (.builtin "getset_descriptor.__get__"))) (htk:PySem.W.takesIn K (.builtin "object.__class__")=some true)
   (hm:PySem.W.mroIn K C (.type "object")=some true):TyOf K H (.ref a) (.ref C)
end
structure Room(k:Nat)(A:Around):Prop where
 hd:A.handled=none
 dp:A.depth+3*k+5<recursionLimit
 un:A.units+16*k+200<cLine
theorem Room.mono{j k:Nat}{A:Around}(r:Room k A)(h:j<=k):Room j A:=⟨r.hd,by have:=r.dp;omega,by have:=r.un;omega⟩
theorem Room.deeper{k:Nat}{A:Around}(r:Room (k+1) A)(env:Env):Room k (A.deeper env):=
 ⟨r.hd,by have:=r.dp;show A.depth+1+3*k+5<_;omega,by have:=r.un;show A.units+3+16*k+200<_;omega⟩
theorem arU{A:Around}{C:Addr}{us:List Value}{kw:List (Str×Value)}:(A.under (.builtin "type.__call__" ⟨.ref C::us,kw⟩)).depth=A.depth+1:=by
 first | rfl | simp[Around.under,Code.weight,Code.isCreation,Code.isGuard,Code.isCaller,Code.frames,Code.isFrame,guardIds]
theorem arL{A:Around}{C:Addr}{us:List Value}{kw:List (Str×Value)}:(A.under (.builtin "type.__call__" ⟨.ref C::us,kw⟩)).units=A.units+1:=by
 first | rfl | simp[Around.under,Code.cUnits,Code.frames,Code.isFrame]
theorem Room.make{k:Nat}{A:Around}(r:Room (k+1) A)(C:Addr)(us:List Value)(kw:List (Str×Value)):Room k (A.under (.builtin "type.__call__" ⟨.ref C::us,kw⟩)):=
 ⟨r.hd,by have:=r.dp;rw[arU];omega,by have:=r.un;rw[arL];omega⟩
theorem Room.depth{k:Nat}{A:Around}(r:Room k A):A.depth<recursionLimit:=by have:=r.dp;omega
theorem Room.units{k:Nat}{A:Around}(r:Room k A):A.units+64<cLine:=by have:=r.un;omega
noncomputable def alG:TA:=fun _ H Q=>Q [] H
noncomputable def aeF(ta:TE)(tr:TA):TA:=fun σ H Q=>ta σ H fun x H1=>tr σ H1 fun xs H2=>Q (x::xs) H2
section
variable{X:Cx}{e:Expr}{es:List Expr}{te:TE}{t:TA}{pos:Pos}
theorem aeQ:PA X [] alG:=fun _ _ _ _ H Q I h=>Calls.spliced_nil ⟨[],H,I,.nil,h⟩
theorem acT(ha:PE X e te)(hr:PA X es t)(hs:starEach (e::es) X.env=(false,eval e X.env)::starEach es X.env:=by rfl):PA X (e::es) (aeF te t):=by
 intro pos pins s σ H Q I h
 rw[hs]
 show wpAny _ _ (spliced ((false,eval e X.env)::backTo pos (starEach es X.env))) _ _ s
 refine Calls.spliced_cons (thn (ha pins s σ H _ I h) fun u s1 ⟨x,H1,I1,r1,q1⟩=>?_)
 exact thn (hr pos pins s1 σ H1 _ I1 q1) fun us s2 ⟨xs,H2,I2,r2,q2⟩=>⟨x::xs,H2,I2,.cons r1 r2,q2⟩
noncomputable def aL2(t:TA):TE:=fun σ H Q=>t σ H fun xs H1=>xs.length<=sizeLine/\∀p,H1 p=none->Q (.ref p) (upd H1 p (.tup xs))
noncomputable def aL1(t:TA):TE:=fun σ H Q=>t σ H fun xs H1=>xs.length<=sizeLine/\∀p,H1 p=none->Q (.ref p) (upd H1 p (.lst xs))
theorem aCV{x1}(h:PA X es t):PE X (.Tuple es x1 pos) (aL2 t):=by
 intro pins s σ H Q I hq
 refine wpAny_Tuple_spliced (thn (h pos pins s σ H _ I hq) fun us s1 ⟨xs,H1,I1,r,z,q⟩=>⟨by rw[←r.length];exact z,?_⟩)
 have hf:H1 s1.heap.objs.size=none:=I1.hok.fresh (aS _)
 refine⟨.ref s1.heap.objs.size,upd H1 s1.heap.objs.size (.tup xs),I1.laid (t':=s1.toks) (fun b u e=>a8 _ e) (aS _) ?_,rfl,q _ hf⟩
 exact⟨z,us,r,⟨_,bK _ rfl,rfl,_,rfl⟩⟩
theorem aEE(h:PA X es t):PE X (.List es pos) (aL1 t):=by
 intro pins s σ H Q I hq
 refine wpAny_List_spliced (thn (h pos pins s σ H _ I hq) fun us s1 ⟨xs,H1,I1,r,z,q⟩=>⟨by rw[←r.length];exact z,?_⟩)
 have hf:H1 s1.heap.objs.size=none:=I1.hok.fresh (aS _)
 refine⟨.ref s1.heap.objs.size,upd H1 s1.heap.objs.size (.lst xs),I1.laid (t':=s1.toks) (fun b u e=>a8 _ e) (aS _) ?_,rfl,q _ hf⟩
 exact⟨z,us,0,r,bK _ rfl⟩
end
noncomputable abbrev Sp:=List V->Hp->VK->XK->Prop
noncomputable abbrev CXT:=List Env->Hp->Shared->XK->Value->Shared->Prop
structure Env0(P:Program)(w:World)(K:FG)(mg:Str->Option Value)(base:Heap)(A:Around)(outer:List Env)(s:Shared)(H:Hp):Prop where
 frames:A.frames=some outer
 mod:Mod K mg base
 bs:∀b o,base.get? b=some o->s.heap.get? b=some o/\H b=none
 bsz:base.objs.size<=s.heap.objs.size
 funs:s.heap.FunFrames base outer
 frf:∀b∈frs outer,H b=none
 hok:HOk P w H s.heap
 bare:AllBare s.gens
noncomputable def CE(outer:List Env)(P:Program)(w:World)(H:Hp)(s:Shared)(Q:VK)(u:Value)(s':Shared):Prop:=
 ∃v H',s'.os=s.os/\AllBare s'.gens/\Un (frs outer) [] H H' s.heap s'.heap/\HOk P w H' s'.heap/\RelV v u/\Q v H'
noncomputable def CR(CX:CXT)(outer:List Env)(P:Program)(w:World)(H:Hp)(s:Shared)(Q:VK)(E:XK)(r:Result)(s':Shared):Prop:=
 match r with
 |.ok (.ret u)=>CE outer P w H s Q u s'
 |.ok _=>False
 |.error e=>CX outer H s E e s'
structure FnOk(P:Program)(w:World)(K:FG)(mg:Str->Option Value)(base:Heap)(CX:CXT)(k:Nat)(f:Addr)(fd:FuncData)(ps:List Str)(sp:Sp):Prop where
 len:∀vs H Q E,sp vs H Q E->vs.length=ps.length
 run:∀(A:Around) (outer:List Env) (s:Shared) (H:Hp) (args:Args) (us:List Value) (vs:List V) (Q:VK) (E:XK),Room k A->Env0 P w K mg base A outer s H->BindsTo s fd args (ps.zip us)->Vals vs us->sp vs H Q E->
  codeAny (model P w) A (.call (.ref f) args) (CR CX outer P w H s Q E) s
theorem Env0.make{P:Program}{w:World}{K:FG}{mg:Str->Option Value}{base:Heap}{A:Around}{outer:List Env}{s:Shared}{H:Hp}(e:Env0 P w K mg base A outer s H)(C:Addr)(us:List Value)(kw:List (Str×Value)):
  Env0 P w K mg base (A.under (.builtin "type.__call__" ⟨.ref C::us,kw⟩)) outer s H:=⟨by first | exact e.frames | (simpa [Around.under,Code.envs,Code.isFrame,pushEnvs] using e.frames),e.mod,e.bs,e.bsz,e.funs,e.frf,e.hok,e.bare⟩
section
variable{X:Cx}{pins:List (Addr×Obj)}{σ:St}{H:Hp}{s s':Shared}
theorem Inv.env0(I:Inv X pins σ H s):Env0 X.prog X.w X.K X.mg X.base X.A X.stack s H:=
 ⟨I.ok.frames,I.ok.mod,I.bs,bI I.ok.bsz I.sz,I.stack,I.stkFree,I.hok,I.bare⟩
theorem Inv.after{Q:VK}{u:Value}(I:Inv X pins σ H s)(h:CE X.stack X.prog X.w H s Q u s'):EP X pins σ Q u s':=by
 obtain⟨v,H',os,bare,un,hok,r,q⟩:=h
 obtain⟨hh,g,d,t,os'⟩:=s'
 obtain rfl:os'=s.os:=os
 exact⟨v,H',I.call (h':=hh) (g':=g) (d':=d) (t':=t) (ch:=[]) un hok bare (fun b z=>absurd z (by simp)),r,q⟩
end
noncomputable def at6(sp:Sp)(dvs:List V)(E:XK)(t:TA):TE:=fun σ H Q=>t σ H fun vs H1=>sp (vs++dvs) H1 Q E
noncomputable def ayM(C:Addr)(m:Str)(sp:Sp)(dvs:List V)(E:XK)(ta:TE)(t:TA):TE:=fun σ H Q=>ta σ H fun x H1=>∃a dx fs,x=.ref a/\H1 a=some (.ins C dx fs)/\fs.lookup m=none/\
 t σ H1 fun vs H2=>sp (x::(vs++dvs)) H2 Q E
noncomputable def auF(C:Addr)(sp:Sp)(dvs:List V)(E:XK)(t:TA):TE:=fun σ H Q=>t σ H fun vs H1=>∀x dx,H1 x=none->H1 dx=none->dx≠x->
 sp (.ref x::(vs++dvs)) (upd (upd H1 dx (.own x)) x (.ins C dx [])) (fun v H2=>v=.non/\Q (.ref x) H2) E
noncomputable def Binds(K:FG)(fd:FuncData)(ps:List Str)(ds:List Value):Prop:=
 ∀(s:Shared) (us:List Value),K.In s.heap->(us++ds).length=ps.length->BindsTo s fd ⟨us,[]⟩ (ps.zip (us++ds))
theorem Binds.all{K:FG}{fd:FuncData}{ps:List Str}(h:∀us:List Value,us.length=ps.length->bindArgs fd ⟨us,[]⟩=pure (ps.zip us)):Binds K fd ps []:=fun s us _ hl=>by
 rw[cI] at hl ⊢
 exact .of_eq (h us hl)
noncomputable def af2(CX:CXT)(X:Cx)(E:XK):Prop:=∀(pins:List (Addr×Obj)) (σ:St) (H:Hp) (s:Shared) (e:Value) (s':Shared),Inv X pins σ H s->CX X.stack H s E e s'->X.xe e s'
section
variable{X:Cx}{CX:CXT}{k:Nat}{f C:Addr}{fd:FuncData}{ps:List Str}{sp:Sp}{dvs:List V}{ds:List Value}{E:XK}{x m:Str}{p pos apos:Pos}{e o:Expr}{es:List Expr}{ta:TE}{t:TA}
theorem as6{pins:List (Addr×Obj)}{σ:St}{H:Hp}{s:Shared}{Q:VK}{us:List Value}{vs:List V}(F:FnOk X.prog X.w X.K X.mg X.base CX k f fd ps sp)(hr:Room k X.A)(hb:Binds X.K fd ps ds)(hd:Vals dvs ds)(hx:af2 CX X E)
  (I:Inv X pins σ H s) (r:Vals vs us) (h:sp (vs++dvs) H Q E):wpAny (model X.prog X.w) X.A (call (.ref f) us) (EP X pins σ Q) X.xe s:=by
 have r2:Vals (vs++dvs) (us++ds):=r.append hd
 have hl:(us++ds).length=ps.length:=by rw[←r2.length];exact F.len _ _ _ _ h
 refine wpAny_call (codeAny_mono (F.run X.A X.stack s H ⟨us,[]⟩ (us++ds) (vs++dvs) Q E hr I.env0 (hb s us I.kIn hl) r2 h) fun r s' hq=>?_)
 cases r with
 |error e=>exact hx pins σ H s e s' I hq
 |ok fl=>
  cases fl with
  |ret u=>exact I.after hq
  |next=>exact False.elim hq
  |brk=>exact False.elim hq
  |cont=>exact False.elim hq
theorem aAT(F:FnOk X.prog X.w X.K X.mg X.base CX k f fd ps sp)(hr:Room k X.A)(hg:Gl X x)(hm:X.mg x=some (.ref f))(hk:PySem.W.keepIn X.K (.ref f)=true)(hb:Binds X.K fd ps ds)(hd:Vals dvs ds)(hx:af2 CX X E)
  (ha:PA X (e::es) t) (hdb:(x==("__debug__":Str))=false:=by decide) (he:starEach (e::es) X.env=(false,eval e X.env)::starEach es X.env:=by rfl) (hpl:(backTo pos (starEach es X.env)).any (·.1)=false:=by rfl):
  PE X (.Call (.Name x p) (e::es) [] pos) (at6 sp dvs E t):=by
 intro pins s σ H Q I h
 refine dX (aeZ I hg hm ?_ hdb)
 refine PySem.W.callWith_K (h₀:=X.base) I.ok.mod.kin hk (thn (ha pos pins s σ H _ I h) fun us s1 ⟨vs,H1,I1,r,q⟩=>⟨I1.kIn,?_⟩) he hpl
 exact as6 F hr hb hd hx I1 r q
theorem azC{pl:Sem Bool}(he:PE X o ta)(c:Cls X.K C)(hm:Meth X.K C m f)(F:FnOk X.prog X.w X.K X.mg X.base CX k f fd ps sp)(hr:Room k X.A)(hb:Binds X.K fd ps ds)(hd:Vals dvs ds)(hx:af2 CX X E)(ha:PA X (e::es) t)
  (hst:starEach (e::es) X.env=(false,eval e X.env)::starEach es X.env:=by rfl) (hpl:(backTo pos (starEach es X.env)).any (·.1)=false:=by rfl)
  (ht:eval (.Call (.Attribute o m apos) (e::es) [] pos) X.env=(do
   let ov ←eval o X.env
   standAt apos.atName
   let (f,first) ←holding [ov] (getMethod ov m pl)
   callWith pos f first (backTo pos (starEach (e::es) X.env)) (backToKw pos (keywordEach [] X.env))):=by rfl):
  PE X (.Call (.Attribute o m apos) (e::es) [] pos) (ayM C m sp dvs E ta t):=by
 intro pins s σ H Q I h
 refine PySem.W.methodCall_KW (pl:=pl) (thn (he pins s σ H _ I h) fun u s1 ⟨x,H1,I1,rx,a,dx,fs,ex,ea,l,q⟩=>?_) ht
 subst ex
 obtain rfl:u=Value.ref a:=rx
 refine asD I1 ea c hm l ?_
 refine PySem.W.callWith_K (first:=[.ref a]) (h₀:=X.base) I.ok.mod.kin hm.kp (thn (ha pos pins s1 σ H1 _ I1 q) fun us s2 ⟨vs,H2,I2,r,q2⟩=>⟨I2.kIn,?_⟩) hst hpl
 exact as6 (us:=.ref a::us) (vs:=.ref a::vs) F hr hb hd hx I2 (.cons rfl r) q2
structure Mk(K:FG)(C f:Addr):Prop where
 makes:PySem.W.makesIn K C=true
 init:PySem.W.findIn K (.ref C) "__init__"=some (some (.ref f))
 fn:PySem.W.isFn K (.ref f)=true
 kp:PySem.W.keepIn K (.ref C)=true
theorem aqA{pins:List (Addr×Obj)}{σ:St}{H:Hp}{s:Shared}{Q:VK}{us:List Value}{vs:List V}(M:Mk X.K C f)(F:FnOk X.prog X.w X.K X.mg X.base CX k f fd ps sp)(hr:Room (k+1) X.A)(hb:Binds X.K fd ps ds)(hd:Vals dvs ds)
  (hx:af2 CX X E) (I:Inv X pins σ H s) (r:Vals vs us)
  (h:∀x dx,H x=none->H dx=none->dx≠x->sp (.ref x::(vs++dvs)) (upd (upd H dx (.own x)) x (.ins C dx [])) (fun v H2=>v=.non/\Q (.ref x) H2) E):
  wpAny (model X.prog X.w) X.A (call (.ref C) us) (EP X pins σ Q) X.xe s:=by
 have hq:=h (s.heap.objs.size+1) s.heap.objs.size (I.hok.fresh (Nat.le_succ _)) (I.hok.fresh (aS _)) (aY (Nat.lt_succ_self _))
 have I2:=Inv.made (C:=C) I
 have r2:Vals (V.ref (s.heap.objs.size+1)::(vs++dvs)) (Value.ref (s.heap.objs.size+1)::(us++ds)):=.cons rfl (r.append hd)
 have hl:(Value.ref (s.heap.objs.size+1)::us++ds).length=ps.length:=by
  have e:=r2.length
  rw[F.len _ _ _ _ hq] at e
  exact e.symm
 refine wpAny_call (aw4 (f:=f) I.kIn M.makes M.init (beq_iff_eq.mp M.fn) (codeAny_mono (F.run _ X.stack _ _ ⟨Value.ref (s.heap.objs.size+1)::us,[]⟩ (Value.ref (s.heap.objs.size+1)::(us++ds)) _ _ E (hr.make C us [])
  (I2.env0.make C us []) (hb _ (Value.ref (s.heap.objs.size+1)::us) I2.kIn hl) r2 hq) fun r s' hq'=>?_))
 cases r with
 |error e=>exact hx pins σ _ _ e s' I2 hq'
 |ok fl=>
  cases fl with
  |ret u=>
   obtain⟨v,H',I3,rv,ev,q3⟩:=I2.after hq'
   subst ev
   exact⟨rv,⟨V.ref (s.heap.objs.size+1),H',I3,rfl,q3⟩⟩
  |next=>exact False.elim hq'
  |brk=>exact False.elim hq'
  |cont=>exact False.elim hq'
theorem azZ(M:Mk X.K C f)(F:FnOk X.prog X.w X.K X.mg X.base CX k f fd ps sp)(hr:Room (k+1) X.A)(hg:Gl X x)(hm:X.mg x=some (.ref C))(hb:Binds X.K fd ps ds)(hd:Vals dvs ds)(hx:af2 CX X E)
  (ha:PA X (e::es) t) (hdb:(x==("__debug__":Str))=false:=by decide) (he:starEach (e::es) X.env=(false,eval e X.env)::starEach es X.env:=by rfl) (hpl:(backTo pos (starEach es X.env)).any (·.1)=false:=by rfl):
  PE X (.Call (.Name x p) (e::es) [] pos) (auF C sp dvs E t):=by
 intro pins s σ H Q I h
 refine dX (aeZ I hg hm ?_ hdb)
 refine PySem.W.callWith_K (h₀:=X.base) I.ok.mod.kin M.kp (thn (ha pos pins s σ H _ I h) fun us s1 ⟨vs,H1,I1,r,q⟩=>⟨I1.kIn,?_⟩) he hpl
 exact aqA M F hr hb hd hx I1 r q
theorem aw8(M:Mk X.K C f)(F:FnOk X.prog X.w X.K X.mg X.base CX k f fd ps sp)(hr:Room (k+1) X.A)(hg:Gl X x)(hm:X.mg x=some (.ref C))(hb:Binds X.K fd ps ds)(hd:Vals dvs ds)(hx:af2 CX X E)
  (hdb:(x==("__debug__":Str))=false:=by decide):PE X (.Call (.Name x p) [] [] pos) (auF C sp dvs E alG):=by
 intro pins s σ H Q I h
 refine dX (aeZ I hg hm ?_ hdb)
 exact PySem.W.callWith_K0 I.kIn M.kp (aqA (us:=[]) M F hr hb hd hx I .nil h)
end
section
variable{X:Cx}{CX:CXT}{k:Nat}{f C:Addr}{fd:FuncData}{ps ks:List Str}{sp:Sp}{E:XK}{x m:Str}{p pos apos kpos:Pos}{e o:Expr}{es:List Expr}{kws:List Keyword}{te ta:TE}{t tk:TA}{nm:Option Str}
variable{g:List Value->List Value->List Value}{gV:List V->List V->List V}
end
structure FnScope(N P:List Str)(sc:Scope):Prop where
 kind:sc.kind=.function
 co:sc.isCoroutine=false
 gen:sc.isGenerator=false
 nd:N.Nodup
 pre:N.take P.length=P
 par:∀x∈P,sc.names.lookup x=some .local∨sc.names.lookup x=some .cell
 nofree:∀y∈sc.names,y.2≠ .free
theorem am4{kindOf:Str->Option NameKind}{x:Str}:∀{binds:List (Str×Value)} {m:Str->Option Value},(∀v,(x,v)∉binds)->bindL kindOf binds m x=m x
 |[],_,_=>rfl
 |(n,v)::r,m,h=>by
  unfold bindL
  rw[am4 fun w hw=>h w (bY _ hw)]
  split
  ·have:x≠n:=by rintro rfl;exact h v bX
   simp[this]
  ·rfl
theorem am6{kindOf:Str->Option NameKind}{x:Str}:∀{binds:List (Str×Value)} {m:Str->Option Value},(∀v,(x,v)∉binds)->bindC kindOf binds m x=m x
 |[],_,_=>rfl
 |(n,v)::r,m,h=>by
  unfold bindC
  rw[am6 fun w hw=>h w (bY _ hw)]
  split
  ·rfl
  ·have:x≠n:=by rintro rfl;exact h v bX
   simp[this]
theorem amD{kindOf:Str->Option NameKind}{x:Str}{v:Value}:∀{P:List Str} {vs:List Value} {i:Nat} {m:Str->Option Value},P.Nodup->P[i]? =some x->vs[i]? =some v->kindOf x=some .local->
  bindL kindOf (P.zip vs) m x=some v
 |[],_,_,_,_,h,_,_=>by simp at h
 |_::_,[],_,_,_,_,h,_=>by simp at h
 |p::P,w::vs,0,m,nd,h1,h2,hk=>by
  simp at h1 h2;subst h1;subst h2
  show bindL kindOf ((p,w)::P.zip vs) m p=_
  unfold bindL
  rw[am4 fun v hv=>(List.nodup_cons.mp nd).1 (List.of_mem_zip hv).1,if_pos hk]
  simp
 |p::P,w::vs,i+1,m,nd,h1,h2,hk=>by
  show bindL kindOf ((p,w)::P.zip vs) m x=_
  unfold bindL
  exact amD (i:=i) (List.nodup_cons.mp nd).2 (by simpa using h1) (by simpa using h2) hk
theorem amC{kindOf:Str->Option NameKind}{x:Str}{v:Value}:∀{P:List Str} {vs:List Value} {i:Nat} {m:Str->Option Value},P.Nodup->P[i]? =some x->vs[i]? =some v->kindOf x≠some .local->
  bindC kindOf (P.zip vs) m x=some v
 |[],_,_,_,_,h,_,_=>by simp at h
 |_::_,[],_,_,_,_,h,_=>by simp at h
 |p::P,w::vs,0,m,nd,h1,h2,hk=>by
  simp at h1 h2;subst h1;subst h2
  show bindC kindOf ((p,w)::P.zip vs) m p=_
  unfold bindC
  rw[am6 fun v hv=>(List.nodup_cons.mp nd).1 (List.of_mem_zip hv).1,if_neg hk]
  simp
 |p::P,w::vs,i+1,m,nd,h1,h2,hk=>by
  show bindC kindOf ((p,w)::P.zip vs) m x=_
  unfold bindC
  exact amC (i:=i) (List.nodup_cons.mp nd).2 (by simpa using h1) (by simpa using h2) hk
noncomputable def start(N:List Str)(vs:List V):St:=vs.map some++List.replicate (N.length-vs.length) none
noncomputable def ai4(CX:CXT)(P:Program)(w:World)(K:FG)(mg:Str->Option Value)(base:Heap)(N:List Str)(qual:Str)(scope:Scope)(f:Addr)(cd:Value)(A:Around)(outer:List Env)(s:Shared)(H:Hp)(E:XK):Cx where
 prog:=P
 w:=w
 K:=K
 mg:=mg
 base:=base
 A:=A.deeper (envOfC qual scope s.heap.objs.size f cd)
 N:=N
 s₀:=s
 H₀:=H
 env:=envOfC qual scope s.heap.objs.size f cd
 outer:=outer
 stack:=envOfC qual scope s.heap.objs.size f cd::outer
 ex:=[]
 calm:=true
 fn:=fun _=>true
 pn:=[]
 xe:=fun e s'=>wpAny (model P w) (A.deeper (envOfC qual scope s.heap.objs.size f cd)) (leaving (envOfC qual scope s.heap.objs.size f cd) e) (fun _ s''=>CX outer H s E e s'') (fun e' s''=>CX outer H s E e' s'') s'
theorem aq8{sc:Scope}{n:Nat}{x:Str}(h:sc.names.lookup x=some .cell):∃c,(cellsFrom n sc.names []).lookup x=some c:=by
 have q:=PySem.W.cellsFrom_some sc.names n [] (.inl h)
 exact cX.mp q
theorem avJ{CX:CXT}{P:Program}{w:World}{K:FG}{mg:Str->Option Value}{base:Heap}{N ps:List Str}{qual:Str}{scope:Scope}{f:Addr}{cd:Value}{A:Around}{outer:List Env}{s s1:Shared}{H:Hp}{E:XK}{us:List Value}{vs:List V}
  (S:FnScope N ps scope) (hd:A.handled=none) (e0:Env0 P w K mg base A outer s H) (hl:vs.length=ps.length) (r:Vals vs us)
  (x:InCallC s s.heap.objs.size (bindL (envOfC qual scope s.heap.objs.size f cd).kindOf (ps.zip us) fun _=>none) (cellsFrom (s.heap.objs.size+1) scope.names []) (bindC (envOfC qual scope s.heap.objs.size f cd).kindOf (ps.zip us) fun _=>none) s1):
  Inv (ai4 CX P w K mg base N qual scope f cd A outer s H E) [] (start N vs) H s1:=by
 have hpl:ps.length<=N.length:=by have:=congrArg List.length S.pre;rw[cR] at this;omega
 obtain⟨h1,tk,rfl,hk⟩:=x.done
 have noA:∀b:Addr,b∉(ai4 CX P w K mg base N qual scope f cd A outer s H E).ex:=fun b z=>absurd (show b∈([]:List Addr) from z) (by simp)
 refine⟨⟨e0.mod,S.kind,rfl,rfl,aS _,fun y z c h1 h2=>?_,fun y hy=>?_,fun y c _ h=>?_,fun _=>hd,Around.frames_deeper e0.frames,.inr ⟨rfl,rfl⟩,fun b z=>absurd z (noA b),e0.bs,e0.bsz,fun b _ _=>noA b,fun b z=>absurd z (noA b),e0.funs,e0.frf⟩,
  rfl,e0.bare,Un.kept hk,⟨_,x.toInCall.ns,fun i y v h1 h2 h3=>?_⟩,fun y c h=>⟨_,x.cell y c h⟩,e0.hok.fresh (aS _),fun y c h=>?_,fun p hp=>absurd (show p∈([]:List (Addr×Obj)) from hp) (by simp),e0.hok.kept hk,?_⟩
 ·exact name_of_addr x.apart (PySem.mem_of_lookup h1) (PySem.mem_of_lookup h2)
 ·have hy:scope.names.lookup y=some .cell∨scope.names.lookup y=some .free:=hy
  rcases hy with hy | hy
  ·exact aq8 hy
  ·exact absurd rfl (S.nofree _ (PySem.mem_of_lookup hy))
 ·exact Nat.le_of_lt (x.above y c (PySem.mem_of_lookup h))
 ·have hi:i<vs.length:=by
   unfold start at h2
   by_cases hi:i<vs.length
   ·exact hi
   ·rw[List.getElem?_append_right (by simpa using hi)] at h2
    rw[List.getElem?_replicate] at h2
    split at h2<;>cases h2
  have ha:vs[i]? =some v:=by
   unfold start at h2
   rw[List.getElem?_append_left (by simpa using hi),bE] at h2
   cases e:vs[i]? with
   |none=>rw[e] at h2;cases h2
   |some a=>rw[e] at h2;cases h2;rfl
  obtain⟨u,hu,rv⟩:=r.get ha
  have hp:ps[i]? =some y:=by
   rw[←S.pre,List.getElem?_take_of_lt (by omega)];exact h1
  have ndP:ps.Nodup:=by rw[←S.pre];exact S.nd.sublist (List.take_sublist _ _)
  refine⟨u,rv,?_⟩
  rcases S.par y (bP hp) with k | k
  ·exact .inl ⟨k,amD ndP hp hu k⟩
  ·obtain⟨c,e⟩:=aq8 (n:=s.heap.objs.size+1) k
   refine .inr ⟨.inl k,c,e,?_⟩
   have q:=x.cell y c e
   rw[amC ndP hp hu (by show scope.names.lookup y≠_;rw[k];decide)] at q
   exact q
 ·exact e0.hok.fresh (Nat.le_of_lt (x.above y c (PySem.mem_of_lookup h)))
 ·unfold start
  show _=N.length
  rw[aW,aU,cY]
  omega
theorem aw9{CX:CXT}{P:Program}{w:World}{K:FG}{mg:Str->Option Value}{base:Heap}{k:Nat}{f:Addr}{name qual:Str}{params:Arguments}{body:List Stmt}{scope:Scope}{dV kV doc pm cdv ct oc:Value}{an od:Option Addr}
  {osl:Array (Option Value)} {N ps:List Str} {sp:Sp} (lk:K.lookup f=some ⟨oc,od,.func (PySem.W.fnOf name qual params body scope dV kV doc pm an cdv ct),osl⟩) (hcd:PySem.W.codeIn K cdv qual=true) (S:FnScope N ps scope)
  (len:∀vs H Q E,sp vs H Q E->vs.length=ps.length)
  (hbody:∀(A:Around) (outer:List Env) (s:Shared) (H:Hp) (vs:List V) (Q:VK) (E:XK),Room k (A.deeper (envOfC qual scope s.heap.objs.size f cdv))->sp vs H Q E->
   ∃t,PSs (ai4 CX P w K mg base N qual scope f cdv A outer s H E) body t/\t {nx:=fun _ H'=>Q .non H',rt:=Q} (start N vs) H):
  FnOk P w K mg base CX (k+1) f (PySem.W.fnOf name qual params body scope dV kV doc pm an cdv ct) ps sp:=by
 refine⟨len,fun A outer s H args us vs Q E hr e0 hb r hsp=>?_⟩
 have hl:=len _ _ _ _ hsp
 have KX:K.In s.heap:=e0.mod.kin.keeps fun b o e=>(e0.bs b o e).1
 have lim:s.heap.NoLimit:=e0.mod.nolimit.keeps fun b o e=>(e0.bs b o e).1
 have hkind:∀y∈ps.zip us,scope.names.lookup y.1=some .local∨(scope.names.lookup y.1=some .cell/\((cellsFrom (s.heap.objs.size+1) scope.names []).lookup y.1).isSome=true):=fun ⟨n,v⟩ hy=>by
  rcases S.par n (List.of_mem_zip hy).1 with q | q
  ·exact .inl q
  ·exact .inr ⟨q,PySem.W.cellsFrom_some _ _ _ (.inl q)⟩
 refine codeAny_call_function hr.depth (KX _ _ lk) rfl S.co S.gen rfl (PySem.W.codeRec_of KX hcd) (hb _ _ _ _ ?_)
 refine wpAny_newFunctionEnv_cells S.kind hkind fun env he s1 x=>?_
 subst he
 refine⟨lim.keeps x.toInCall.keep,codeAny_func ?_⟩
 obtain⟨t,ht,hq⟩:=hbody A outer s H vs Q E (hr.deeper _) hsp
 have I:Inv (ai4 CX P w K mg base N qual scope f cdv A outer s H E) [] (start N vs) H s1:=avJ S hr.hd e0 hl r x
 refine dN (ht [] s1 (start N vs) H _ I hq) (fun fl s' hs=>?_) fun e s' hs=>hs
 have fin:∀{σ':St} {H':Hp} {v:V} {u:Value},Inv (ai4 CX P w K mg base N qual scope f cdv A outer s H E) [] σ' H' s'->RelV v u->Q v H'->CE outer P w H s Q u s':=
  fun {σ' H' v u} J rv q=>⟨v,H',J.os,J.bare,J.base,J.hok,rv,q⟩
 cases fl with
 |ret u=>
  obtain⟨v,σ',H',J,rv,q⟩:=hs
  exact fin J rv q
 |next=>
  obtain⟨σ',H',J,q⟩:=hs
  exact fin (v:=V.non) (u:=Value.none) J rfl q
 |brk=>
  obtain⟨_,_,_,q⟩:=hs
  exact False.elim q
 |cont=>
  obtain⟨_,_,_,q⟩:=hs
  exact False.elim q
section
variable{X:Cx}{x:Str}{p pos:Pos}{e:Expr}{es:List Expr}{t:TA}{id T:String}{r:List V->Hp->VK->Prop}
noncomputable def tCB(r:List V->Hp->VK->Prop)(t:TA):TE:=fun σ H Q=>t σ H fun vs H1=>r vs H1 Q
theorem axF(hc:adU X (.builtin id) r)(hg:Gl X x)(hm:X.mg x=none)(hv:bootBuiltins x=some (.builtin id))(ha:PA X (e::es) t)(hn:x≠"__name__":=by decide)(hdb:(x==("__debug__":Str))=false:=by decide)
  (he:starEach (e::es) X.env=(false,eval e X.env)::starEach es X.env:=by rfl) (hpl:(backTo pos (starEach es X.env)).any (·.1)=false:=by rfl):PE X (.Call (.Name x p) (e::es) [] pos) (tCB r t):=by
 intro pins s σ H Q I h
 refine dX (ahQ I hg hm hv ?_ hn hdb)
 exact PyProof.Rows.callWith_builtin1 (thn (ha pos pins s σ H _ I h) fun us s1 ⟨vs,H1,I1,r1,q1⟩=>hc pins s1 σ H1 vs us Q I1 r1 q1) he hpl
theorem av5(hc:adU X (.type T) r)(hg:Gl X x)(hm:X.mg x=none)(hv:bootBuiltins x=some (.type T))(ha:PA X (e::es) t)(hn:x≠"__name__":=by decide)(hdb:(x==("__debug__":Str))=false:=by decide)
  (he:starEach (e::es) X.env=(false,eval e X.env)::starEach es X.env:=by rfl) (hpl:(backTo pos (starEach es X.env)).any (·.1)=false:=by rfl):PE X (.Call (.Name x p) (e::es) [] pos) (tCB r t):=by
 intro pins s σ H Q I h
 refine dX (ahQ I hg hm hv ?_ hn hdb)
 exact PyProof.Rows.callWith_type1 (thn (ha pos pins s σ H _ I h) fun us s1 ⟨vs,H1,I1,r1,q1⟩=>hc pins s1 σ H1 vs us Q I1 r1 q1) he hpl
end
end L2
namespace HT
open PySem PyProof.Rows
section
open PySem.SeqAt
open PySem.AutoSeq1 (wpAny_loadPart')
open PySem.MeetsSeq PySem.MeetsSeq2 PySem.MeetsSeq3
end
section
variable{prog:Program}{w:World}{A:Around}{E:Value->Shared->Prop}{s:Shared}
noncomputable def sIx(n d:Nat):Option Int->Nat
 |none=>d
 |some v=>if v<0 then (v+(n:Int)).toNat else min v.toNat n
theorem sIx_nat(n d k:Nat):sIx n d (some (k:Int))=min k n:=by
 show (if (k:Int)<0 then ((k:Int)+(n:Int)).toNat else min (k:Int).toNat n)=min k n
 rw[if_neg (by omega),Int.toNat_natCast]
theorem sIx_le(n d:Nat)(hd:d<=n)(o:Option Int):sIx n d o<=n:=by
 cases o with
 |none=>exact hd
 |some v=>
  show (if v<0 then (v+(n:Int)).toNat else min v.toNat n)<=n
  by_cases hv:v<0
  ·rw[if_pos hv];omega
  ·rw[if_neg hv];exact Nat.min_le_right _ _
end
end HT
namespace L2
open PySem PySem.Spec PyProof.Rows
noncomputable abbrev TO:=St->Hp->(Option Int->Hp->Prop)->Prop
noncomputable def PO(X:Cx)(e:Option Expr)(t:TO):Prop:=
 ∀(pins:List (Addr×Obj)) (s:Shared) (σ:St) (H:Hp) (Q:Option Int->Hp->Prop),Inv X pins σ H s->t σ H Q->
  wpAny (model X.prog X.w) X.A (evalPart e X.env) (fun u s'=>∃o H',Inv X pins σ H' s'/\IsPart u o/\Q o H') X.xe s
noncomputable def auA:TO:=fun _ H Q=>Q none H
noncomputable def aA6(t:TE):TO:=fun σ H Q=>t σ H fun x H1=>∃i,x=.int i/\Q (some i) H1
section
variable{X:Cx}{e:Expr}{te:TE}{lo hi:Option Expr}{tl th:TO}{pos p2:Pos}
theorem aAJ:PO X none auA:=by
 intro pins s σ H Q I h
 rw[evalPart_none]
 exact dY ⟨none,H,I,.none,h⟩
theorem aAP(h:PE X e te):PO X (some e) (aA6 te):=by
 intro pins s σ H Q I hw
 rw[evalPart_some]
 refine thn (h pins s σ H _ I hw) fun u s1 ⟨x,H1,I1,r1,q1⟩=>?_
 obtain⟨i,rfl,q⟩:=q1
 obtain⟨t,rfl⟩:=r1
 exact⟨some i,H1,I1,.int i t,q⟩
noncomputable def SlR(X:Cx)(r:V->Option Int->Option Int->Hp->VK->Prop):Prop:=
 ∀(pins:List (Addr×Obj)) (s:Shared) (σ:St) (H:Hp) (x:V) (v vl vu:Value) (lo hi:Option Int) (sl:Addr) (Q:VK),Inv X pins σ H s->RelV x v->s.heap.IsSliceOf sl vl vu .none->IsPart vl lo->IsPart vu hi->r x lo hi H Q->
  ∃T id,typeLookup (.type T) "__getitem__"=pure (some (.builtin id))/\s.TypeIs v T/\wpAny (model X.prog X.w) X.A (getItem v (.ref sl)) (EP X pins σ Q) X.xe s
noncomputable def tSl(r:V->Option Int->Option Int->Hp->VK->Prop)(te:TE)(tl th:TO):TE:=fun σ H Q=>te σ H fun x H1=>tl σ H1 fun l H2=>th σ H2 fun u H3=>r x l u H3 Q
theorem ax1{r:V->Option Int->Option Int->Hp->VK->Prop}(hr:SlR X r)(he:PE X e te)(hl:PO X lo tl)(hu:PO X hi th):PE X (.Subscript e (.Slice lo hi none p2) pos) (tSl r te tl th):=by
 intro pins s σ H Q I h
 refine Subscript_ (thn (he pins s σ H _ I h) fun v s1 ⟨x,H1,I1,r1,q1⟩=>?_)
 refine wpAny_Slice (thn (hl pins s1 σ H1 _ I1 q1) fun vl s2 ⟨l,H2,I2,pl,q2⟩=>thn (hu pins s2 σ H2 _ I2 q2) fun vu s3 ⟨u,H3,I3,pu,q3⟩=>?_)
 rw[evalPart_none]
 refine dY ?_
 have I4:Inv X pins σ H3 {s3 with heap:=s3.heap.push {cls:=.type "slice",data:=.fields #[vl,vu,.none]} }:=I3.kept (t':=s3.toks) fun b ob q=>a8 _ q
 obtain⟨T,id,hT,ht,hg⟩:=hr pins {s3 with heap:=s3.heap.push {cls:=.type "slice",data:=.fields #[vl,vu,.none]} } σ H3 x v vl vu l u s3.heap.objs.size Q I4 r1 (Heap.IsSliceOf.new ..) pl pu q3
 show wpAny (model X.prog X.w) X.A (subscriptTail e (.Slice lo hi none p2) v (.ref s3.heap.objs.size)) (EP X pins σ Q) X.xe {s3 with heap:=s3.heap.push {cls:=.type "slice",data:=.fields #[vl,vu,.none]} }
 exact tail_any (ops:=[.ref s3.heap.objs.size,v]) ht hT hg (by with_unfolding_all rfl)
noncomputable def ahL(xs:List V)(lo hi:Option Int):List V:=(xs.drop (HT.sIx xs.length 0 lo)).take (HT.sIx xs.length xs.length hi-HT.sIx xs.length 0 lo)
theorem apP(xs:List V)(lo hi:Option Int):(ahL xs lo hi).length<=xs.length:=by
 unfold ahL
 rw[cR,List.length_drop]
 omega
end
noncomputable def ixN(n:Nat)(i:Int):Option Nat:=if 0<=i then (if i<n then some i.toNat else none) else if -(n:Int)<=i then some (i+n).toNat else none
noncomputable def atI{α:Type}(xs:List α)(i:Int):Option α:=(ixN xs.length i).bind fun j=>xs[j]?
theorem atO{n:Nat}{i:Int}{j:Nat}(h:ixN n i=some j):seqIndex? i n=some j/\j<n/\ -(n:Int)<=i/\i<n:=by
 unfold ixN at h
 by_cases h0:0<=i
 ·rw[if_pos h0] at h
  by_cases h1:i<n
  ·rw[if_pos h1] at h
   have e:i.toNat=j:=bA h
   exact⟨by rw[seqIndex_of h0 h1,e],by omega,by omega,h1⟩
  ·rw[if_neg h1] at h;cases h
 ·rw[if_neg h0] at h
  by_cases h1: -(n:Int)<=i
  ·rw[if_pos h1] at h
   have e:(i+n).toNat=j:=bA h
   exact⟨by rw[seqIndex_neg (by omega) h1,e],by omega,h1,by omega⟩
  ·rw[if_neg h1] at h;cases h
theorem aoW{α:Type}{xs:List α}{i:Int}{v:α}(h:atI xs i=some v):∃j,seqIndex? i xs.length=some j/\xs[j]? =some v/\j<xs.length/\ -(xs.length:Int)<=i/\i<xs.length:=by
 unfold atI at h
 cases e:ixN xs.length i with
 |none=>rw[e] at h;cases h
 |some j=>
  rw[e] at h
  obtain⟨h1,h2,h3,h4⟩:=atO e
  exact⟨j,h1,h,h2,h3,h4⟩
theorem ae2{α:Type}{xs:List α}{j:Nat}{v:α}(h:xs[j]? =some v):atI xs (j:Int)=some v:=by
 have hj:j<xs.length:=(dB.mp h).1
 have e:ixN xs.length (j:Int)=some j:=by
  unfold ixN
  rw[if_pos (by omega),if_pos (by omega)];simp
 unfold atI;rw[e];exact h
theorem axW{α:Type}(xs:List α)(v:α):atI (xs++[v]) (-1)=some v:=by
 have hl:(xs++[v]).length=xs.length+1:=by simp
 have e:ixN (xs++[v]).length (-1)=some xs.length:=by
  unfold ixN
  rw[hl,if_neg (by decide),if_pos (by omega)]
  congr 1
  omega
 unfold atI
 rw[e]
 show (xs++[v])[xs.length]? =some v
 simp
noncomputable def atJ(b:Expr):Prop:=∀o i,subscripted b false o i=operate [o,i] (getItem o i)
noncomputable def IxR(X:Cx)(r:R2):Prop:=
 ∀(value slice:Expr) (pins:List (Addr×Obj)) (s:Shared) (σ:St) (H:Hp) (x y:V) (v u:Value) (Q:VK),Inv X pins σ H s->RelV x v->RelV y u->r x y H Q->
  subscripted slice false v u=operate [v,u] (getItem v u)->wpAny (model X.prog X.w) X.A (subscriptTail value slice v u) (EP X pins σ Q) X.xe s
noncomputable def MtR(X:Cx)(id:String)(r:V->List V->Hp->VK->Prop):Prop:=
 ∀(pins:List (Addr×Obj)) (s:Shared) (σ:St) (H:Hp) (x:V) (xs:List V) (v:Value) (us:List Value) (Q:VK),Inv X pins σ H s->RelV x v->Vals xs us->r x xs H Q->
  wpAny (model X.prog X.w) X.A (call (.builtin id) (v::us)) (EP X pins σ Q) X.xe s
section
variable{X:Cx}{a b:Expr}{ta tb:TE}{pos:Pos}
theorem aFH{r:R2}(hr:IxR X r)(ha:PE X a ta)(hb:PE X b tb)(hs:atJ b):PE X (.Subscript a b pos) (tOp r ta tb):=by
 intro pins s σ H Q I h
 exact Subscript_ (aDA ha hb I h fun v u s2 x y H2 I2 rx ry q=>hr a b pins s2 σ H2 x y v u Q I2 rx ry q (hs _ _))
noncomputable def aJ4(K:FG):R2:=fun x y H Q=>∃p xs i v,x=.ref p/\y=.int i/\SqL K H p xs/\atI xs i=some v/\Q v H
noncomputable def aEY(K:FG):R2:=fun x y H Q=>∃p xs i v,x=.ref p/\y=.int i/\SqT K H p xs/\atI xs i=some v/\Q v H
noncomputable def rIxS:R2:=fun x y H Q=>∃z i c,x=.str z/\y=.int i/\z.length<=sizeLine/\atI z.cps.toList i=some c/\Q (.str ⟨#[c]⟩) H
theorem az1:IxR X (aJ4 X.K):=by
 intro value slice pins s σ H x y v u Q I rx ry h hs
 obtain⟨p,xs,i,z,rfl,rfl,hq,he,q⟩:=h
 cases rx
 obtain⟨t,rfl⟩:=ry
 obtain⟨its,r,pl,hz⟩:=I.list hq
 obtain⟨j,h1,h2,h3,h4,h5⟩:=aoW he
 obtain⟨w,ew,rw'⟩:=r.get h2
 have hl:=r.length
 have hn:=ahE
 have fin:EP X pins σ Q w s:=⟨z,H,I,rw',q⟩
 by_cases h0:0<=i
 ·have hj:i.toNat=j:=by
   rw[seqIndex_of h0 h5] at h1
   exact bA h1
  exact item_listR pl.isList h0 (by omega) (by rw[hj];simpa using ew) fin hs
 ·have hj:(i+(its.toArray.size:Int)).toNat=j:=by
   rw[seqIndex_neg (by omega) h4] at h1
   rw[bG,←hl]
   exact bA h1
  exact subscriptTail_builtinR (x:=w) pl.isList.typeIs slot_list_getitem.lookup
   (wpAny_getItem_list_neg (Q:=fun r s'=>r=w/\EP X pins σ Q r s') pl.isList (by omega) (by rw[bG]<;>omega) (by omega) (by rw[hj];simpa using ew) ⟨rfl,fin⟩) hs
theorem aB2:IxR X (aEY X.K):=by
 intro value slice pins s σ H x y v u Q I rx ry h hs
 obtain⟨p,xs,i,z,rfl,rfl,hq,he,q⟩:=h
 cases rx
 obtain⟨t,rfl⟩:=ry
 obtain⟨its,r,pl,hz⟩:=I.tuple hq
 obtain⟨j,h1,h2,h3,h4,h5⟩:=aoW he
 obtain⟨w,ew,rw'⟩:=r.get h2
 have hl:=r.length
 have hn:=ahE
 have fin:EP X pins σ Q w s:=⟨z,H,I,rw',q⟩
 exact subscriptTail_builtinR (x:=w) pl.typeIs slot_tuple_getitem.lookup
  (getItem_tuple (j:=j) (Q:=fun r s'=>r=w/\EP X pins σ Q r s') pl (by omega) (by omega) (by rw[bG,←hl];exact h1) (by simpa using ew) ⟨rfl,fin⟩) hs
theorem aC4:IxR X rIxS:=by
 intro value slice pins s σ H x y v u Q I rx ry h hs
 obtain⟨z,i,c,rfl,rfl,hz,he,q⟩:=h
 obtain⟨t,rfl⟩:=rx
 obtain⟨t',rfl⟩:=ry
 obtain⟨j,h1,h2,h3,h4,h5⟩:=aoW he
 have hl:z.cps.toList.length=z.length:=by simp[Str.length]
 rw[hl] at h1 h4 h5
 have hn:=ahE
 exact tail_any (typeIs_str s z t) slot_str_getitem.lookup (getItem_str (c:=c) (by
  have e1:decide (i< -(2^63:Int))=false:=dW (by omega)
  have e2:decide (i ≥ 2^63)=false:=dW (by omega)
  rw[e1,e2,Bool.or_false]) (by rw[h1];simpa using h2) ⟨.str ⟨#[c]⟩,H,I.tok _,⟨_,rfl⟩,q⟩) hs
theorem as7(its:List Value)(n j:Nat)(u:Value):Obj.mapSeq (·.setIfInBounds j u) {cls:=.type "list",data:=.seq its.toArray n}={cls:=.type "list",data:=.seq (its.set j u).toArray n}:=by
 simp[Obj.mapSeq]
theorem Inv.lst{pins:List (Addr×Obj)}{σ:St}{H:Hp}{s:Shared}{p:Addr}{xs:List V}(I:Inv X pins σ H s)(h:H p=some (.lst xs)):
  ∃(its:List Value) (n:Nat),Vals xs its/\s.heap.get? p=some {cls:=.type "list",data:=.seq its.toArray n}/\xs.length<=sizeLine:=by
 obtain⟨z,its,n,r,e⟩:=I.hok p _ h
 exact⟨its,n,r,e,z⟩
theorem Inv.lstUpd{pins:List (Addr×Obj)}{σ:St}{H:Hp}{s:Shared}{p:Addr}{xs ys:List V}{its its':List Value}{n n':Nat}{f:Obj->Obj}(I:Inv X pins σ H s)(h:H p=some (.lst xs))
  (ho:s.heap.get? p=some {cls:=.type "list",data:=.seq its.toArray n}) (hf:f {cls:=.type "list",data:=.seq its.toArray n}={cls:=.type "list",data:=.seq its'.toArray n'}) (r:Vals ys its') (hz:ys.length<=sizeLine) (t:Nat):
  Inv X pins σ (upd H p (.lst ys)) {s with heap:=s.heap.update p f,toks:=t}:=by
 have e:(s.heap.update p f).get? p=some {cls:=.type "list",data:=.seq its'.toArray n'}:=by
  rw[Heap.get?_update_self f ho (by rw[hf]<;>rfl),hf]
 refine I.write (x:=p) (e:=p) (by rw[h];trivial) (.inl rfl) (fun b u hb q=>(Heap.get?_update_other _ _ (Ne.symm hb)).trans q) ⟨_,e⟩ ?_
 exact⟨hz,its',n',r,e⟩
noncomputable def aBM:V->V->V->Hp->(Hp->Prop)->Prop:=fun o i v H Q=>∃p xs k j,o=.ref p/\i=.int k/\H p=some (.lst xs)/\ixN xs.length k=some j/\Q (upd H p (.lst (xs.set j v)))
theorem ayT:aMB X aBM:=by
 intro pins s σ H o i v ov iv u Q I ro ri rv h
 obtain⟨p,xs,k,j,rfl,rfl,hp,hj,q⟩:=h
 cases ro
 obtain⟨t,rfl⟩:=ri
 obtain⟨its,n,r,ho,hz⟩:=I.lst hp
 obtain⟨h1,h2,h3,h4⟩:=atO hj
 have hl:=r.length
 have hn:=ahE
 have I':Inv X pins σ (upd H p (.lst (xs.set j v))) {s with heap:=s.heap.update p (Obj.mapSeq (·.setIfInBounds j u))}:=
  I.lstUpd hp ho (as7 its n j u) (r.set rv j) (by rw[List.length_set];exact hz) s.toks
 by_cases h0:0<=k
 ·have hk:k.toNat=j:=by
   rw[seqIndex_of h0 h4] at h1
   exact bA h1
  exact PySem.W.ki_setAt ho h0 (by omega) (by rw[bG,←hl];exact h4) (by rw[hk];exact⟨_,I',q⟩)
 ·have hk:(k+(its.toArray.size:Int)).toNat=j:=by
   rw[seqIndex_neg (by omega) h3] at h1
   rw[bG,←hl]
   exact bA h1
  exact PySem.W.ki_setBack ho (by omega) (by rw[bG,←hl];exact h3) (by omega) (by rw[hk];exact⟨_,I',q⟩)
theorem an0(lo hi:Option Int)(n:Nat):(sliceBounds lo hi none n).1=((HT.sIx n 0 lo:Nat):Int)/\(sliceBounds lo hi none n).2.1=((HT.sIx n n hi:Nat):Int)/\(sliceBounds lo hi none n).2.2=1:=by
 refine⟨?_,?_,rfl⟩
 ·cases lo with
  |none=>simp[sliceBounds,HT.sIx]
  |some i=>
   simp only[sliceBounds,HT.sIx,Option.getD_none,show (1:Int)>0 by decide,if_true]
   by_cases h:i<0
   ·simp only[h,if_true]<;>omega
   ·simp only[h,if_false]<;>omega
 ·cases hi with
  |none=>simp[sliceBounds,HT.sIx]
  |some i=>
   simp only[sliceBounds,HT.sIx,Option.getD_none,show (1:Int)>0 by decide,if_true]
   by_cases h:i<0
   ·simp only[h,if_true]<;>omega
   ·simp only[h,if_false]<;>omega
theorem alN(its:List Value)(lo hi:Option Int):slicePick its.toArray lo hi none=((its.drop (HT.sIx its.length 0 lo)).take (HT.sIx its.length its.length hi-HT.sIx its.length 0 lo)).toArray:=by
 obtain⟨h1,h2,h3⟩:=an0 lo hi its.toArray.size
 unfold slicePick
 rw[h1,h2,h3]
 simp only[sliceRange_one,pick_run,bG]<;>rfl
noncomputable def aLI(K:FG):V->Option Int->Option Int->Hp->VK->Prop:=fun x lo hi H Q=>∃a xs,x=.ref a/\SqL K H a xs/\∀p,H p=none->Q (.ref p) (upd H p (.lst (ahL xs lo hi)))
theorem az0:SlR X (aLI X.K):=by
 intro pins s σ H x v vl vu lo hi sl Q I rx hs pl pu h
 obtain⟨a,xs,rfl,hx,q⟩:=h
 cases rx
 obtain⟨its,r,ht,hz⟩:=I.list hx
 have hlen:=r.length
 refine⟨"list",_,slot_list_getitem.lookup,ht.isList.typeIs,?_⟩
 refine wpAny_getItem_list_slice ht.isList hs pl pu .none (by simp) ?_ (by rw[bG]<;>omega)
 rw[alN,←hlen]
 refine⟨.ref s.heap.objs.size,_,I.laid (t':=s.toks) (o:=.lst (ahL xs lo hi)) (fun b ob q=>a8 _ q) (aS _) ?_,rfl,q _ (I.hok.fresh (aS _))⟩
 exact⟨bI (apP xs lo hi) hz,_,0,(r.drop (HT.sIx xs.length 0 lo)).take (HT.sIx xs.length xs.length hi-HT.sIx xs.length 0 lo),bK _ rfl⟩
noncomputable def afE:V->Bool
 |.non=>true
 |.bl _=>true
 |.int _=>true
 |.str _=>true
 |_=>false
noncomputable def eqV:V->V->Bool
 |.non,.non=>true
 |.bl a,.bl b=>a==b
 |.bl a,.int b=>(if a then 1 else 0)==b
 |.int a,.bl b=>a==(if b then 1 else 0)
 |.int a,.int b=>a==b
 |.str a,.str b=>a==b
 |_,_=>false
theorem aCN{A:Around}{s:Shared}{y x:V}{u v:Value}(ry:RelV y u)(rx:RelV x v)(fy:afE y=true)(fx:afE x=true):SeqAt.EqAt A s u v (eqV y x):=by
 cases y with
 |non=>
  cases ry
  cases x with
  |non=>cases rx;exact SeqAt.EqAt.same _
  |bl b=>cases rx;exact SeqAt.EqAt.none_bool b
  |int b=>obtain⟨t,rfl⟩:=rx;exact SeqAt.EqAt.none_int b t
  |str b=>obtain⟨t,rfl⟩:=rx;exact SeqAt.EqAt.none_str b t
  |_=>exact absurd (show false=true from fx) a9
 |bl a=>
  cases ry
  cases x with
  |non=>cases rx;exact SeqAt.EqAt.bool_none a
  |bl b=>cases rx;exact SeqAt.EqAt.bool_bool a b
  |int b=>obtain⟨t,rfl⟩:=rx;exact SeqAt.EqAt.bool_int a b t
  |str b=>obtain⟨t,rfl⟩:=rx;exact SeqAt.EqAt.bool_str a b t
  |_=>exact absurd (show false=true from fx) a9
 |int a=>
  obtain⟨t',rfl⟩:=ry
  cases x with
  |non=>cases rx;exact SeqAt.EqAt.int_none a t'
  |bl b=>cases rx;exact SeqAt.EqAt.int_bool a t' b
  |int b=>obtain⟨t,rfl⟩:=rx;exact SeqAt.EqAt.int_int a t' b t
  |str b=>obtain⟨t,rfl⟩:=rx;exact SeqAt.EqAt.int_str a t' b t
  |_=>exact absurd (show false=true from fx) a9
 |str a=>
  obtain⟨t',rfl⟩:=ry
  cases x with
  |non=>cases rx;exact SeqAt.EqAt.str_none a t'
  |bl b=>cases rx;exact SeqAt.EqAt.str_bool a t' b
  |int b=>obtain⟨t,rfl⟩:=rx;exact SeqAt.EqAt.str_int a t' b t
  |str b=>obtain⟨t,rfl⟩:=rx;exact SeqAt.EqAt.str_str a t' b t
  |_=>exact absurd (show false=true from fx) a9
 |_=>exact absurd (show false=true from fy) a9
noncomputable def eqU(x:V)(u:Value):Bool:=match u with
 |.none=>eqV .non x
 |.bool b=>eqV (.bl b) x
 |.int i _=>eqV (.int i) x
 |.str z _=>eqV (.str z) x
 |_=>false
theorem ayY{x y:V}{u:Value}(r:RelV y u)(f:afE y=true):eqU x u=eqV y x:=by
 cases y with
 |non=>cases r;rfl
 |bl b=>cases r;rfl
 |int i=>obtain⟨t,rfl⟩:=r;rfl
 |str z=>obtain⟨t,rfl⟩:=r;rfl
 |_=>exact absurd (show false=true from f) a9
theorem anT{x:V}:∀{xs:List V} {us:List Value},Vals xs us->xs.all afE=true->us.any (eqU x)=xs.any fun y=>eqV y x
 |_,_,.nil,_=>rfl
 |y::xs,u::us,.cons r t,f=>by
  rw[List.all_cons,bH] at f
  rw[cH,cH,ayY r f.1,anT t f.2]
theorem akU{A:Around}{s:Shared}{x:V}{v:Value}(rx:RelV x v)(fx:afE x=true):∀{xs:List V} {us:List Value},Vals xs us->xs.all afE=true->∀u∈us,SeqAt.EqAt A s u v (eqU x u)
 |_,_,.nil,_=>fun u hu=>by cases hu
 |y::xs,u::us,.cons r t,f=>fun u' hu=>by
  rw[List.all_cons,bH] at f
  rcases bB.mp hu with rfl | hu
  ·rw[ayY r f.1];exact aCN r rx f.1 fx
  ·exact akU rx fx t f.2 u' hu
noncomputable def inV(x:V)(xs:List V):Bool:=xs.any fun y=>eqV y x
noncomputable def rIn(K:FG)(neg:Bool):R2:=fun x y H Q=>∃p xs,y=.ref p/\(SqL K H p xs∨SqT K H p xs)/\afE x=true/\xs.all afE=true/\Q (.bl (if neg then !inV x xs else inV x xs)) H
theorem av1:OpR X (compareOp .In) (rIn X.K false):=by
 intro pins s σ H x y v u Q I rx ry h
 obtain⟨p,xs,rfl,hq,fx,fs,q⟩:=h
 cases ry
 rcases hq with hq | hq
 ·obtain⟨its,r,pl,hz⟩:=I.list hq
  refine SeqAt.in_listAt (eqU x) pl.isList (fun w hw=>akU rx fx r fs w (by simpa using hw)) ⟨.bl _,H,I,rfl,?_⟩
  rw[show its.toArray.any (eqU x)=its.any (eqU x) by simp,anT r fs]
  exact q
 ·obtain⟨its,r,pl,hz⟩:=I.tuple hq
  refine SeqAt.in_tupleAt (eqU x) pl (fun w hw=>akU rx fx r fs w (by simpa using hw)) ⟨.bl _,H,I,rfl,?_⟩
  rw[show its.toArray.any (eqU x)=its.any (eqU x) by simp,anT r fs]
  exact q
theorem anV:adU X (.builtin "len") (fun xs H Q=>∃p ys,xs=[.ref p]/\(SqL X.K H p ys∨SqT X.K H p ys)/\Q (.int ys.length) H):=by
 intro pins s σ H xs us Q I r h
 obtain⟨p,ys,rfl,hq,q⟩:=h
 obtain⟨u,rfl,rx⟩:=acW r
 cases rx
 have hn:=ahE
 rcases hq with hq | hq
 ·obtain⟨its,r',pl,hz⟩:=I.list hq
  have hlen:=r'.length
  exact Calls.call_len_list pl.isList (by simp only[bG]<;>omega) ⟨.int ys.length,H,I.tok _,⟨s.toks+1,by rw[bG,hlen]⟩,q⟩
 ·obtain⟨its,r',pl,hz⟩:=I.tuple hq
  have hlen:=r'.length
  exact len_tuple pl (by simp only[bG]<;>omega) ⟨.int ys.length,H,I.tok _,⟨s.toks+1,by rw[bG,hlen]⟩,q⟩
theorem an9:adU X (.builtin "len") (fun xs H Q=>∃z,xs=[.str z]/\z.length<=sizeLine/\Q (.int z.length) H):=by
 intro pins s σ H xs us Q I r h
 obtain⟨z,rfl,hz,q⟩:=h
 obtain⟨u,rfl,t,rfl⟩:=acW r
 have hn:=ahE
 exact len_str (by omega) ⟨.int z.length,H,I.tok _,⟨_,rfl⟩,q⟩
noncomputable def tyV(K:FG)(T:String)(x:V)(H:Hp):Prop:=match x with
 |.str _=>T="str"
 |.int _=>T="int"
 |.ref p=>(T="list"/\∃xs,SqL K H p xs)∨(T="tuple"/\∃o,K.lookup p=some o/\o.cls=.type "tuple"/\o.dict=none)∨
   (T="dict"/\((∃kvs,H p=some (.dK kvs))∨∃kvs,H p=some (.dT kvs)))∨(T="set"/\∃S n,H p=some (.set S n))
 |_=>False
theorem ax8{pins:List (Addr×Obj)}{σ:St}{H:Hp}{s:Shared}{T:String}{x:V}{v:Value}(I:Inv X pins σ H s)(r:RelV x v)(ty:tyV X.K T x H):
  s.TypeIs v T/\∀a,v=.ref a->∃ob,s.heap.get? a=some ob/\ob.dict=none:=by
 cases x with
 |str z=>
  obtain⟨t,rfl⟩:=r
  cases (show T="str" from ty)
  exact⟨typeIs_str s z t,fun _ e=>nomatch e⟩
 |int i=>
  obtain⟨t,rfl⟩:=r
  cases (show T="int" from ty)
  exact⟨typeIs_int s i t,fun _ e=>nomatch e⟩
 |ref p=>
  cases r
  rcases ty with ⟨rfl,xs,hq⟩ | ⟨rfl,o,hk,hc,hd⟩ | ⟨rfl,hk⟩ | ⟨rfl,S,n,hk⟩
  ·obtain⟨its,_,pl,_⟩:=I.list hq
   refine⟨pl.isList.typeIs,fun a e=>?_⟩
   cases e
   obtain⟨o,n,e,c,hd,_⟩:=pl
   exact⟨o,e,hd⟩
  ·refine⟨⟨o,I.kIn p o hk,hc⟩,fun a e=>?_⟩
   cases e
   exact⟨o,I.kIn _ o hk,hd⟩
  ·have z:∃o,s.heap.get? p=some o/\o.ExactDict:=by
    rcases hk with ⟨kvs,hk⟩ | ⟨kvs,hk⟩
    ·obtain⟨_,_,_,_,o,_,_,e,ex,_⟩:=I.hok p _ hk
     exact⟨o,e,ex⟩
    ·obtain⟨_,_,_,_,o,_,_,e,ex,_⟩:=I.hok p _ hk
     exact⟨o,e,ex⟩
   obtain⟨o,e,ex⟩:=z
   refine⟨⟨o,e,ex.1⟩,fun a e2=>?_⟩
   cases e2
   exact⟨o,e,ex.2.1⟩
  ·obtain⟨o,_,_,_,e,ex,_⟩:=I.hok p _ hk
   refine⟨⟨o,e,ex.1⟩,fun a e2=>?_⟩
   cases e2
   exact⟨o,e,ex.2.1⟩
 |_=>exact False.elim ty
noncomputable def aM0(K:FG)(T:String)(r:V->List V->Hp->VK->Prop)(to:TE):TE:=fun σ H Q=>to σ H fun x H1=>tyV K T x H1/\r x [] H1 Q
noncomputable def tBM(K:FG)(T:String)(r:V->List V->Hp->VK->Prop)(to:TE)(t:TA):TE:=fun σ H Q=>to σ H fun x H1=>tyV K T x H1/\t σ H1 fun xs H2=>r x xs H2 Q
variable{o e:Expr}{es:List Expr}{to:TE}{t:TA}{name:Str}{apos cpos:Pos}{T id:String}{r:V->List V->Hp->VK->Prop}
theorem aC8(pa:PlainAttrs T)(slot:Slot T name id)(hty:typeOf (.builtin id)=pure (.type "method_descriptor"))(hm:MtR X id r)(ho:PE X o to)
  (hbase:attributeBase o name X.env (eval o X.env)=eval o X.env:=by rfl) (hline:(apos.endLine==cpos.line)=true:=by rfl):PE X (.Call (.Attribute o name apos) [] [] cpos) (aM0 X.K T r to):=by
 intro pins s σ H Q I h
 refine wpAny_Call_method0_late hbase hline (thn (ho pins s σ H _ I h) fun v s1 ⟨x,H1,I1,r1,ty,q1⟩=>?_)
 obtain⟨h1,h2⟩:=ax8 I1 r1 ty
 exact⟨T,id,pa,slot,hty,h1,h2,Calls.callWith_builtin rfl (PySem.evalArgs_none (hm pins s1 σ H1 x [] v [] Q I1 r1 .nil q1))⟩
theorem aqD(pa:PlainAttrs T)(slot:Slot T name id)(hty:typeOf (.builtin id)=pure (.type "method_descriptor"))(hm:MtR X id r)(ho:PE X o to)(ha:PA X (e::es) t)
  (hbase:attributeBase o name X.env (eval o X.env)=eval o X.env:=by rfl)
  (hfew:((backTo cpos (starEach (e::es) X.env)).all (fun x=> !x.1)&&(backToKw cpos (keywordEach [] X.env)).all (fun x=>x.1.isSome)
   &&decide ((e::es).length+([]:List Keyword).length+(if ([]:List Keyword).isEmpty then 0 else 1)<30))=true:=by rfl)
  (hline:(apos.endLine==cpos.line)=true:=by rfl) (hs:starEach (e::es) X.env=(false,eval e X.env)::starEach es X.env:=by rfl) (hplain:(backTo cpos (starEach es X.env)).any (·.1)=false:=by rfl):
  PE X (.Call (.Attribute o name apos) (e::es) [] cpos) (tBM X.K T r to t):=by
 intro pins s σ H Q I h
 refine wpAny_Call_method_late hbase hfew hline rfl (thn (ho pins s σ H _ I h) fun v s1 ⟨x,H1,I1,r1,ty,q1⟩=>?_)
 obtain⟨h1,h2⟩:=ax8 I1 r1 ty
 refine⟨T,id,pa,slot,hty,h1,h2,?_⟩
 have hA:=ha cpos pins s1 σ H1 _ I1 q1
 rw[hs] at hA ⊢
 refine Calls.callWith_builtin (by show (false||(backTo cpos (starEach es X.env)).any (·.1))=false;rw[hplain]<;>rfl) (Calls.evalArgs_plain ?_)
 exact thn hA fun us s2 ⟨vs,H2,I2,r2,q2⟩=>hm pins s2 σ H2 x vs v us Q I2 r1 r2 q2
end
noncomputable def MtM(X:Cx)(id:String)(r:V->List V->Hp->VK->Prop):Prop:=
 ∀(pins:List (Addr×Obj)) (s:Shared) (σ:St) (H:Hp) (x:V) (xs:List V) (v:Value) (us:List Value) (Q:VK),Inv X pins σ H s->RelV x v->Vals xs us->r x xs H Q->
  wpAny (model X.prog X.w) X.A (call (.builtin id) (v::us)) (EP X pins σ Q) X.xe s
theorem Vals.one:∀{x:V} {us:List Value},Vals [x] us->∃u,us=[u]/\RelV x u
 |_,_,.cons r .nil=>⟨_,rfl,r⟩
theorem Vals.rep{xs:List V}{us:List Value}(h:Vals xs us):∀k:Nat,Vals (List.replicate k xs).flatten (List.replicate k us).flatten
 |0=>.nil
 |k+1=>by
  rw[dC,dC,cT,cT]
  exact Vals.append h (Vals.rep h k)
theorem amN(its:List Value):∀(k:Nat) (acc:List Value),
  List.foldl (fun x1 x2=>x1++x2) acc.toArray (List.replicate k its.toArray)=(acc++(List.replicate k its).flatten).toArray
 |0,acc=>by simp
 |k+1,acc=>by
  have e:acc.toArray++its.toArray=(acc++its).toArray:=by simp
  have e2:(acc++its)++(List.replicate k its).flatten=acc++(List.replicate (k+1) its).flatten:=by
   rw[dC,cT,List.append_assoc]
  rw[←e2,←amN its k (acc++its),←e,dC,List.foldl_cons]
section
variable{X:Cx}{pins:List (Addr×Obj)}{σ:St}{H:Hp}{s:Shared}{l b:Addr}{xs ys zs:List V}
theorem Inv.lset{its its':List Value}{n:Nat}{f:Array Value->Array Value}{t':Nat}(I:Inv X pins σ H s)(hH:H l=some (.lst xs))
  (e:s.heap.get? l=some {cls:=.type "list",data:=.seq its.toArray n}) (hf:f its.toArray=its'.toArray) (hv:Vals ys its') (hz:ys.length<=sizeLine):
  Inv X pins σ (upd H l (.lst ys)) {s with heap:=s.heap.update l (Obj.mapSeq f),toks:=t'}:=by
 have q:=PySem.IsL.update e f
 rw[hf] at q
 refine I.write (x:=l) (e:=l) (by rw[hH];exact trivial) (.inl rfl) (fun b' u hb hu=>(Heap.get?_update_other s.heap (Obj.mapSeq f) (Ne.symm hb)).trans hu) ⟨_,q⟩ ?_
 exact⟨hz,its',_,hv,q⟩
theorem Inv.lnew{its:List Value}{t':Nat}(I:Inv X pins σ H s)(hv:Vals ys its)(hz:ys.length<=sizeLine):
  Inv X pins σ (upd H s.heap.objs.size (.lst ys)) {s with heap:=s.heap.push {cls:=.type "list",data:=.seq its.toArray},toks:=t'}:=
 I.laid (fun _ _ q=>a8 _ q) (aS _) ⟨hz,its,0,hv,bK _ rfl⟩
theorem Inv.fresh(I:Inv X pins σ H s):H s.heap.objs.size=none:=I.hok.fresh (aS _)
theorem Inv.lstM(I:Inv X pins σ H s)(hH:H l=some (.lst xs)):xs.length<=sizeLine/\∃(its:List Value) (n:Nat),Vals xs its/\xs.length=its.length/\s.heap.get? l=some {cls:=.type "list",data:=.seq its.toArray n}:=by
 obtain⟨z,its,n,r,e⟩:=I.hok l _ hH
 exact⟨z,its,n,r,r.length,e⟩
theorem ax3{n:Nat}(h:n<=sizeLine):Builtin.List.listTooLong n=false:=by
 unfold Builtin.List.listTooLong
 exact dW (by omega)
end
section
variable{X:Cx}
noncomputable def atY:V->List V->Hp->VK->Prop:=fun x vs H Q=>∃l xs y,x=.ref l/\vs=[y]/\H l=some (.lst xs)/\xs.length<sizeLine/\Q .non (upd H l (.lst (xs++[y])))
theorem ag6:MtM X "list.append" atY:=by
 intro pins s σ H x vs v us Q I rx rv h
 obtain⟨l,xs,y,rfl,rfl,hH,hz,q⟩:=h
 cases rx
 obtain⟨u,rfl,ru⟩:=rv.one
 obtain⟨z,its,n,r,hl,e⟩:=I.lstM hH
 refine call_meets F.slot_list_append ⟨_,e,rfl⟩ F.entry_list_append (F.args_list_append_2 _ _) (PySem.list_append l its.toArray n u (by rw[bG];omega)) ⟨e,?_⟩
 refine⟨.non,_,I.lset (its':=its++[u]) hH e (by simp) (r.append (.cons ru .nil)) ?_,rfl,q⟩
 rw[aW,bV]
 omega
noncomputable def aMJ:R2:=fun x y H Q=>∃l b xs zs,x=.ref l/\y=.ref b/\H l=some (.lst xs)/\H b=some (.lst zs)/\xs.length+zs.length<=sizeLine/\∀p,H p=none->Q (.ref p) (upd H p (.lst (xs++zs)))
theorem aDM:OpR X (binaryOp .Add) aMJ:=by
 intro pins s σ H x y v u Q I rx ry h
 obtain⟨l,b,xs,zs,rfl,rfl,hH,hB,hz,q⟩:=h
 cases rx
 cases ry
 obtain⟨z,its,n,r,hl,e⟩:=I.lstM hH
 obtain⟨z2,its2,n2,r2,hl2,e2⟩:=I.lstM hB
 refine PySem.P.add_list e e2 ?_ (by rw[bG,bG];omega)
 have ea:its.toArray++its2.toArray=(its++its2).toArray:=by simp
 rw[ea]
 exact⟨.ref _,_,I.lnew (t':=s.toks) (r.append r2) (by rw[aW];omega),rfl,q _ I.fresh⟩
noncomputable def aJ2:R2:=fun x y H Q=>∃l k xs,x=.ref l/\y=.int k/\H l=some (.lst xs)/\ -(2^63)<=k/\k<2^63/\xs.length*k.toNat<=sizeLine/\
 ∀p,H p=none->Q (.ref p) (upd H p (.lst (List.replicate k.toNat xs).flatten))
theorem ay6{α:Type}(xs:List α)(k:Nat):(List.replicate k xs).flatten.length=k*xs.length:=by
 induction k with
 |zero=>simp
 |succ k ih=>rw[dC,cT,aW,ih,Nat.succ_mul,Nat.add_comm]
theorem aDN:OpR X (binaryOp .Mult) aJ2:=by
 intro pins s σ H x y v u Q I rx ry h
 obtain⟨l,k,xs,rfl,rfl,hH,h1,h2,hz,q⟩:=h
 cases rx
 obtain⟨t,rfl⟩:=ry
 obtain⟨z,its,n,r,hl,e⟩:=I.lstM hH
 have hlen:its.toArray.size*k.toNat<=sizeLine:=by rw[bG,←hl];exact hz
 have hcap:¬its.toArray.size*k.toNat>(2^63-1) / 8:=by
  have:(sizeLine:Nat)<=(2^63-1) / 8:=by decide
  omega
 have hfit:¬(!Builtin.List.listFitsIndex k)=true:=by
  rw[fitsIndex_both h1 h2]
  exact a9
 have hlong:¬Builtin.List.listTooLong (its.toArray.size*k.toNat)=true:=by
  rw[ax3 hlen]
  exact a9
 have hnew:List.foldl (fun x1 x2=>x1++x2) #[] (List.replicate (if its.toArray.isEmpty=true then 0 else k.toNat) its.toArray)=(List.replicate k.toNat its).flatten.toArray:=by
  have f0:∀m:Nat,List.foldl (fun x1 x2=>x1++x2) #[] (List.replicate m its.toArray)=(List.replicate m its).flatten.toArray:=fun m=>by
   have:=amN its m []
   rw[List.nil_append] at this
   exact this
  rw[f0]
  cases its with
  |nil=>simp
  |cons a r'=>rw[if_neg (by simp)]
 refine wpAny_binaryOp_repeat_ref (T:="list") (U:="int") (by decide) ⟨_,e,rfl⟩ (fun s'=>typeIs_int s' k t) noFill_list_mul F.fills_int_mul F.slot_int_rmul repeat_list F.slot_int_index.lookup
  (call_meets F.slot_int_rmul (typeIs_int s k t) F.entry_int_rmul (F.args_int_rmul_2 _ _) (int___rmul___int_list k t l its.toArray n)
   ⟨e,rfl,⟨_,e,rfl⟩,call_meets F.slot_list_mul ⟨_,e,rfl⟩ F.entry_list_mul (F.args_list_mul_2 _ _) (AutoListH.list___mul___list_int_3 l its.toArray n k t hfit hcap hlong) ⟨e,?_⟩⟩)
 rw[hnew]
 exact⟨.ref _,_,I.lnew (t':=s.toks) (r.rep k.toNat) (by rw[ay6,Nat.mul_comm];exact hz),rfl,q _ I.fresh⟩
end
section
variable{prog:Program}{w:World}{A:Around}{E:Value->Shared->Prop}{s:Shared}
end
section
variable{X:Cx}
end
end L2
namespace Att
open PySem PySem.W PySem.Calls PyProof.Rows
theorem ai3{P:Params}{h:Heap}:∀(ns:List Int) (vs:List Value),WellAll P h vs (ns.map WData.int)->IntsAre vs ns:=by
 intro ns
 induction ns with
 |nil=>
  intro vs w
  rw[List.map_nil] at w
  cases w
  exact .nil
 |cons n ns ih=>
  intro vs w
  rw[List.map_cons] at w
  cases w with
  |cons a b=>
   cases a
   exact .cons _ _ (ih _ b)
theorem au1{l:OpenLaw}{n:Nat}(hn:l.most=some n){P:Params}{h:Heap}{args:List WData}{vals:List Value}
  (hpre:l.row.toRowW.claim.pre args=true) (hwl:WellAll P h vals args):
  ∃a vs ns,vals=[Value.ref a]/\args=[WData.list (ns.map WData.int)]/\h.get? a=some {cls:=.type "list",data:=.seq vs.toArray}/\IntsAre vs ns/\ns.length<=n:=by
 have hsh:WShape.hasAll [] args [.list .int]=true:=(pre_splitW hpre).1
 have hc:l.pre.holds [] {args:=args}=true:=(pre_splitW hpre).2
 obtain⟨d,r,rfl,h1,h2⟩:=hasAllW_cons hsh
 obtain rfl:=hasAllW_nil h2
 obtain⟨xs,rfl,h3⟩:=hasW_list h1
 obtain⟨ns,rfl⟩:=items_int h3
 have hlen:ns.length<=n:=by
  unfold OpenLaw.pre at hc
  have h4:(WTm.not (.lt (.lit (.int (n:Int))) (.len (.arg 0)))).holds [] {args:=[.list (ns.map .int)]}=true:=by
   have h4:=(holds_andW hc).1
   rw[hn] at h4
   exact h4
  have h5:=condW_of h4 (w_not (w_lt w_lit (w_len_list (w_arg rfl))))
  rw[List.length_map] at h5
  refine Nat.le_of_not_lt fun q=>?_
  have q':(n:Int)<((ns.length:Nat):Int):=by omega
  first
   |(rw[decide_eq_true q'] at h5;exact absurd h5 (by decide))
   |(simp at h5;omega)
 cases hwl with
 |cons w1 w2=>
  cases w2
  cases w1 with
  |list ho hall=>exact⟨_,_,ns,rfl,rfl,ho,ai3 ns _ hall,hlen⟩
theorem avF(l:OpenLaw)(args:List WData):l.row.toRowW.claim.post args (.bool true) args=true:=
 postW_of (r:=l.row.toRowW) (X:=(true==true))
  (show WShape.has [] (.bool true) .bool=true by first | rfl | decide | simp[WShape.has,WShape.arms,WShape.armsAll])
  (show (WTm.eq .res (.lit (.bool true))).value [] {args:=args,res:=some (.bool true),after:=args}=some (.bool (true==true)) from w_eq_bool (w_res rfl) w_lit) rfl
theorem attach_call{l:OpenLaw}{n:Nat}{q:Program}{loose:List Str}{XP:(Str->Option Value)->Heap->Prop}{YP:World->Heap->Prop}{d:DefRec}
  (hn:l.most=some n) (hdf:d.params.defaults=[])
  (call:∀(w:World) (s₀ s₁:Shared) (mg mb:Str->Option Value) (fa:Addr) (o:Obj) (pm cd doc:Value) (a:Addr) (vs:List Value) (ns:List Int),
   Ground q loose [] XP w s₀ mg mb s₁.heap->YP w s₁.heap->
   s₁.heap.get? fa=some o->o.data=.func (docDef d.name d.params d.body d.scope pm cd doc)->s₁.heap.CodeRec cd d.name->mg d.name=some (.ref fa)->
   s₁.heap.get? a=some {cls:=.type "list",data:=.seq vs.toArray}->IntsAre vs ns->ns.length<=n->s₁.gens= #[]->
   codeAny (model l.prog w) callerA (.call (.ref fa) ⟨[.ref a],[]⟩) (fun r s'=>r=.ok (.ret (.bool true))/\OldK s₁.heap s'.heap/\s'.os=s₁.os/\AllBare s'.gens) s₁):
  WalkO q loose XP YP l.row.toRowW d [] (fun f vs=>PySem.call f vs):=by
 intro w s₀ s₁ mg mb G Y fa o pm cd doc dV kV ho hd hcd hD hmg hg args vals as hpre hlay hrd hwl hlo
 obtain rfl:dV=.none:=Dflts.none hD hdf
 obtain rfl:kV=.none:=Dflts.noKw hD
 obtain⟨a,vs,ns,rfl,rfl,hobj,hints,hlen⟩:=au1 hn hpre hwl
 refine enter_call (codeAny_mono (call w s₀ s₁ mg mb fa o pm cd doc a vs ns G Y ho (fd_plain hd) hcd hmg hobj hints hlen hg) fun r s' hq=>?_)
 obtain⟨rfl,h2,h3,h4⟩:=hq
 exact⟨.inl ⟨.bool true,.bool true,[],rfl,fun _=>rfl,.bool true,avF l _,fun _=>⟨List.Pairwise.nil,fun _ hm=>(nomatch hm)⟩⟩,h2,h3,h4⟩
section
variable{prog:Program}{w:World}{A:Around}{E:Value->Shared->Prop}{s:Shared}{K:Frag}
end
end Att
namespace L2
open PySem PySem.Spec PyProof.Rows
theorem am7:∀{vs:List Value} {ns:List Int},IntsAre vs ns->Vals (ns.map V.int) vs
 |_,_,.nil=>.nil
 |_,_,.cons n t h=>.cons ⟨t,rfl⟩ (am7 h)
noncomputable def aaW(s:Stmt)(j:Nat):Stmt:=match s with
 |.ClassDef _ _ _ body _ _ _ _ _ _ _=>body.getD j (.Pass ⟨0,0,0,0⟩)
 |_=>.Pass ⟨0,0,0,0⟩
noncomputable def aa0(s:Stmt):Arguments:=match s with
 |.FunctionDef _ a _ _ _ _ _ _ _ _=>a
 |_=>{posonlyargs:=[],args:=[],vararg:=none,kwonlyargs:=[],kw_defaults:=[],kwarg:=none,defaults:=[]}
noncomputable def aaS(s:Stmt):List Stmt:=match s with
 |.FunctionDef _ _ b _ _ _ _ _ _ _=>b
 |_=>[]
noncomputable def aaC(s:Stmt):Scope:=match s with
 |.FunctionDef _ _ _ _ _ _ sc _ _ _=>sc
 |_=>{kind:=.function,names:=[],isGenerator:=false,isCoroutine:=false}
noncomputable abbrev CX0:CXT:=fun _ _ _ _ _ _=>False
noncomputable abbrev E0:XK:=fun _ _ _=>False
theorem aq4{X:Cx}:af2 CX0 X E0:=fun _ _ _ _ _ _ _ h=>h.elim
structure Fun(K:FG)(x qual:Str)(st:Stmt)(f:Addr)(fd:FuncData):Prop where
 ex:∃(oc:Value) (od:Option Addr) (kV doc pm:Value) (an:Option Addr) (cdv ct:Value) (osl:Array (Option Value)),
  fd=PySem.W.fnOf x qual (aa0 st) (aaS st) (aaC st) .none kV doc pm an cdv ct/\K.lookup f=some ⟨oc,od,.func fd,osl⟩/\PySem.W.codeIn K cdv qual=true
 kp:PySem.W.keepIn K (.ref f)=true
section
variable{P:Program}{w:World}{K:FG}{mg:Str->Option Value}{base:Heap}
theorem Fun.ok{x qual:Str}{st:Stmt}{f:Addr}{fd:FuncData}{N ps:List Str}{k:Nat}{sp:Sp}(F:Fun K x qual st f fd)(S:FnScope N ps (aaC st))(len:∀vs H Q E,sp vs H Q E->vs.length=ps.length)
  (hbody:∀(cdv:Value) (A:Around) (outer:List Env) (s:Shared) (H:Hp) (vs:List V) (Q:VK) (E:XK),Room k (A.deeper (envOfC qual (aaC st) s.heap.objs.size f cdv))->sp vs H Q E->
   ∃t,PSs (ai4 CX0 P w K mg base N qual (aaC st) f cdv A outer s H E).nox (aaS st) t/\t {nx:=fun _ H'=>Q .non H',rt:=Q} (start N vs) H):FnOk P w K mg base CX0 (k+1) f fd ps sp:=by
 obtain⟨oc,od,kV,doc,pm,an,cdv,ct,osl,rfl,lk,hcd⟩:=F.ex
 refine aw9 lk hcd S len fun A outer s H vs Q E hr hsp=>?_
 obtain⟨t,h,q⟩:=hbody cdv A outer s H vs Q E hr hsp
 exact⟨t,h.nox,q⟩
theorem Fun.binds{x qual:Str}{st:Stmt}{f:Addr}{fd:FuncData}{ps:List Str}(F:Fun K x qual st f fd)
  (h:∀(kV doc pm:Value) (an:Option Addr) (cdv ct:Value) (us:List Value),us.length=ps.length->bindArgs (PySem.W.fnOf x qual (aa0 st) (aaS st) (aaC st) .none kV doc pm an cdv ct) ⟨us,[]⟩=pure (ps.zip us)):Binds K fd ps []:=by
 obtain⟨oc,od,kV,doc,pm,an,cdv,ct,osl,rfl,lk,hcd⟩:=F.ex
 exact .all (h kV doc pm an cdv ct)
theorem anI{x qual:Str}{st:Stmt}{f:Addr}{oc:Value}{od an:Option Addr}{osl:Array (Option Value)}{kV doc pm cdv ct:Value}(l:K.lookup f=some ⟨oc,od,.func (PySem.W.fnOf x qual (aa0 st) (aaS st) (aaC st) .none kV doc pm an cdv ct),osl⟩)
  (c:PySem.W.codeIn K cdv qual=true) (k:PySem.W.keepIn K (.ref f)=true):Fun K x qual st f (PySem.W.fnOf x qual (aa0 st) (aaS st) (aaC st) .none kV doc pm an cdv ct):=⟨⟨oc,od,kV,doc,pm,an,cdv,ct,osl,rfl,l,c⟩,k⟩
end
section
variable{X:Cx}
end
theorem aa5{A B:Prop}(h:B):if false=true then A else B:=by
 rw[if_neg a9]
 exact h
theorem abB{A B:Prop}(h:A):if true=true then A else B:=by
 rw[if_pos rfl]
 exact h
theorem aD9{c A B:Prop}[Decidable c](h1:c->A)(h2:¬c->B):if c then A else B:=by
 by_cases h:c
 ·rw[if_pos h]
  exact h1 h
 ·rw[if_neg h]
  exact h2 h
noncomputable def Same(H H':Hp):Prop:=∀b o,H b=some o->H' b=some o
theorem Same.refl(H:Hp):Same H H:=fun _ _ h=>h
theorem Same.trans{H H1 H2:Hp}(a:Same H H1)(b:Same H1 H2):Same H H2:=fun c o h=>b c o (a c o h)
theorem Same.free{H H':Hp}(e:Same H H'){l:Addr}(h:H' l=Option.none):H l=Option.none:=by
 cases q:H l with
 |none=>rfl
 |some o=>
  rw[e l o q] at h
  cases h
theorem Same.seq{K:FG}{H H':Hp}{a:Addr}{xs:List V}(e:Same H H')(h:SqL K H a xs):SqL K H' a xs:=by
 rcases h with (h | ⟨o,h⟩) | h
 ·exact .inl (.inl (e _ _ h))
 ·exact .inl (.inr ⟨o,e _ _ h⟩)
 ·exact .inr h
section
variable{X:Cx}
theorem asH:adU X (.builtin "isinstance") (fun xs H Q=>∃i:Int,xs=[.int i,.ty "int"]/\Q (.bl true) H):=by
 intro pins s σ H xs us Q I r h
 obtain⟨i,rfl,q⟩:=h
 obtain⟨u,w',rfl,⟨t,rfl⟩,r2⟩:=amH r
 cases r2
 exact PySem.IsiPair.int_int ⟨.bl true,H,I,rfl,q⟩
theorem asP:adU X (.builtin "isinstance") (fun xs H Q=>∃i:Int,xs=[.int i,.ty "bool"]/\Q (.bl false) H):=by
 intro pins s σ H xs us Q I r h
 obtain⟨i,rfl,q⟩:=h
 obtain⟨u,w',rfl,⟨t,rfl⟩,r2⟩:=amH r
 cases r2
 exact PySem.IsiPair.int_bool ⟨.bl false,H,I.tok _,rfl,q⟩
end
structure Df(P:Program)(w:World)(K:FG)(mg:Str->Option Value)(base:Heap)(x:Str)(k:Nat)(ps:List Str)(sp:Sp):Prop where
 ex:∃(f:Addr) (fd:FuncData),FnOk P w K mg base CX0 k f fd ps sp/\Binds K fd ps []/\mg x=some (.ref f)/\PySem.W.keepIn K (.ref f)=true
structure Fn(K:FG)(mg:Str->Option Value)(x:Str)(st:Stmt)(ps:List Str):Prop where
 ex:∃(f:Addr) (fd:FuncData),Fun K x x st f fd/\Binds K fd ps []/\mg x=some (.ref f)
section
variable{P:Program}{w:World}{K:FG}{mg:Str->Option Value}{base:Heap}{x:Str}{st:Stmt}{ps N:List Str}{k:Nat}{sp:Sp}
theorem Fn.df(F:Fn K mg x st ps)(S:FnScope N ps (aaC st))(len:∀vs H Q E,sp vs H Q E->vs.length=ps.length)
  (hbody:∀(f:Addr) (cdv:Value) (A:Around) (outer:List Env) (s:Shared) (H:Hp) (vs:List V) (Q:VK) (E:XK),Room k (A.deeper (envOfC x (aaC st) s.heap.objs.size f cdv))->sp vs H Q E->
   ∃t,PSs (ai4 CX0 P w K mg base N x (aaC st) f cdv A outer s H E).nox (aaS st) t/\t {nx:=fun _ H'=>Q .non H',rt:=Q} (start N vs) H):Df P w K mg base x (k+1) ps sp:=by
 obtain⟨f,fd,F1,hb,hm⟩:=F.ex
 exact⟨⟨f,fd,F1.ok S len (hbody f),hb,hm,F1.kp⟩⟩
theorem aaK{h:Heap}{f:Addr}{oc:Value}{od an:Option Addr}{osl:Array (Option Value)}{kV doc pm cdv ct:Value}(X:K.In h)(G:h.Ns mainGlobals mg)
  (a:PySem.W.nsIn K mainGlobals x=some (some (.ref f))) (l:K.lookup f=some ⟨oc,od,.func (PySem.W.fnOf x x (aa0 st) (aaS st) (aaC st) .none kV doc pm an cdv ct),osl⟩)
  (c:PySem.W.codeIn K cdv x=true) (k:PySem.W.keepIn K (.ref f)=true)
  (hb:∀(kV doc pm:Value) (an:Option Addr) (cdv ct:Value) (us:List Value),us.length=ps.length->bindArgs (PySem.W.fnOf x x (aa0 st) (aaS st) (aaC st) .none kV doc pm an cdv ct) ⟨us,[]⟩=pure (ps.zip us)):Fn K mg x st ps:=by
 have F:=anI (st:=st) l c k
 exact⟨⟨f,_,F,F.binds (ps:=ps) hb,PySem.W.mg_of X G a⟩⟩
end
section
variable{X:Cx}
theorem axB{x:Str}{k k':Nat}{ps:List Str}{sp:Sp}{e:Expr}{es:List Expr}{t:TA}{p pos:Pos}(D:Df X.prog X.w X.K X.mg X.base x k ps sp)(hr:Room k' X.A)(ha:PA X (e::es) t)(hk:k<=k':=by decide)(hg:Gl X x:=by rfl)
  (hdb:(x==("__debug__":Str))=false:=by decide) (he:starEach (e::es) X.env=(false,eval e X.env)::starEach es X.env:=by rfl) (hpl:(backTo pos (starEach es X.env)).any (·.1)=false:=by rfl):
  PE X (.Call (.Name x p) (e::es) [] pos) (at6 sp [] E0 t):=by
 obtain⟨f,fd,F,hb,hm,kp⟩:=D.ex
 exact aAT F (hr.mono hk) hg hm kp hb .nil aq4 ha hdb he hpl
end
theorem aaB{H:Hp}{p:Addr}(h:H p=none)(o:HO):Same H (upd H p o):=fun b u q=>by rw[aaF (aaI q h)];exact q
theorem int_eq{a b:Int}:(V.int a=V.int b)↔a=b:=⟨fun h=>V.int.inj h,fun h=>by rw[h]⟩
theorem ifI{a b:Int}{A B:Prop}(h1:a=b->A)(h2:¬a=b->B):if decide (V.int a=V.int b)=true then A else B:=
 aD9 (fun c=>h1 (int_eq.mp (dQ c))) (fun c=>h2 fun e=>c (dR (int_eq.mpr e)))
theorem aD2{a b:Int}{A B:Prop}(h1:¬a=b->A)(h2:a=b->B):if (!decide (V.int a=V.int b))=true then A else B:=by
 by_cases e:a=b
 ·rw[dR (int_eq.mpr e)];exact aa5 (h2 e)
 ·rw[dW fun q=>e (int_eq.mp q)];exact abB (h1 e)
theorem ifD{c:Prop}[Decidable c]{A B:Prop}(h1:c->A)(h2:¬c->B):if decide c=true then A else B:=
 aD9 (fun q=>h1 (dQ q)) (fun q=>h2 fun e=>q (dR e))
theorem ifNe{a b:Int}{A B:Prop}(e:a=b)(h:B):if (!decide (V.int a=V.int b))=true then A else B:=by
 rw[dR (int_eq.mpr e)];exact aa5 h
noncomputable def ap4:Expr->Option Int
 |.Constant (.int i) _ _=>some i
 |_=>none
noncomputable def aBF(is:List Int):TA:=fun _ H Q=>Q (is.map V.int) H
theorem atH{X:Cx}:∀{es:List Expr} (is:List Int),es.map ap4=is.map some->PA X es (aBF is)
 |[],[],_=>aeQ
 |[],_::_,h=>by cases h
 |_::_,[],h=>by cases h
 |e::es,i::is,h=>by
  have h1:ap4 e=some i:=(List.cons.inj h).1
  have h2:es.map ap4=is.map some:=(List.cons.inj h).2
  obtain⟨j,pos,rfl⟩:∃j pos,e=.Constant (.int i) j pos:=by
   unfold ap4 at h1
   split at h1
   ·cases h1
    exact⟨_,_,rfl⟩
   ·cases h1
  exact acT ayE (atH is h2)
structure Clos(X:Cx)(scope:Scope)(cl:List (Str×Addr)):Prop where
 is:closureFor scope X.env=pure cl
 sub:∀y c,cl.lookup y=some c->X.env.cells.lookup y=some c
 has:∀y,scope.names.lookup y=some .free->∃c,cl.lookup y=some c
 nocell:∀y∈scope.names,y.2≠ .cell
 kind:scope.kind=.function
 names:∀y∈scope.names,y.2=.local->scope.names.lookup y.1=some .local
noncomputable def aaM(X:Cx)(N:List Str)(scope:Scope)(cl:List (Str×Addr))(C:Addr)(ex:List Addr)(pins:List (Addr×Obj))(s:Shared)(H:Hp):Cx:=
 {X with N:=N,s₀:=s,H₀:=H,env:=compEnvC scope cl C X.env,outer:=X.stack,stack:=X.stack,ex:=ex,fn:=fun _=>false,pn:=X.pn++pins,xe:=fun _ _=>False}
noncomputable def aaZ(js:List Nat)(σ:St):St:=js.map fun j=>(σ[j]?).getD none
noncomputable def auR(ifs:List Expr)(env:Env):Sem Bool:=
 forIn ifs true fun c r=>if r=true then (do let ok ←isTrue c env (eval c env);pure (ForInStep.yield ok)) else pure (ForInStep.yield r)
noncomputable def PF(X:Cx)(ifs:List Expr)(t:TT):Prop:=
 ∀(pins:List (Addr×Obj)) (s:Shared) (σ:St) (H:Hp) (Q:Bool->Hp->Prop),Inv X pins σ H s->t σ H Q->
  wpAny (model X.prog X.w) X.A (auR ifs X.env) (TP X pins σ Q) X.xe s
noncomputable def aMQ:TT:=fun _ H Q=>Q true H
theorem aDE{X:Cx}:PF X [] aMQ:=fun _ _ _ H _ I h=>wpAny_tests_nil ⟨H,I,h⟩
theorem aDS{X:Cx}{c:Expr}{t:TT}(h:PT X c t):PF X [c] t:=fun pins s σ H Q I q=>wpAny_tests_one (h pins s σ H Q I q)
noncomputable def atB(J:It)(js:List Nat)(σ:St)(tt:TT)(te:TE)(Q:VK)(H1:Hp):Prop:=∀D,H1 D=none->∃W:Nat->Nat->Hp->Prop,(∃m,W 0 m (upd H1 D (.lst [])))/\∀i m H2,W i m H2->
 (J.stop i H2/\Q (.ref D) H2)∨(J.go i H2/\∀v H3,J.yld i H2 v H3->tt (some v::aaZ js σ) H3 fun b H4=>if b=true then
  te (some v::aaZ js σ) H4 fun y H5=>∃ys,H5 D=some (.lst ys)/\ys.length<sizeLine/\∃m',m'<m/\W (i+1) m' (upd H5 D (.lst (ys++[y])))
  else ∃m',m'<m/\W (i+1) m' H4)
noncomputable def ayH(wi:TI)(js:List Nat)(tt:TT)(te:TE):TE:=fun σ H Q=>wi σ H fun J H1=>atB J js σ tt te Q H1
noncomputable def aoA(env:Env)(n:Str)(k:NameKind):NameKind:=if (k==NameKind.free&&env.scope.kind== .function&&env.kindOf n==some .cell) then .cell else k
theorem aAB{env:Env}{n:Str}{k:NameKind}:(if (k==NameKind.free&&env.scope.kind== .function&&env.kindOf n==some .cell) then (n,NameKind.cell) else (n,k))=(n,aoA env n k):=by
 unfold aoA
 split<;>rfl
theorem ad3{env:Env}:∀(names:List (Str×NameKind)) (x:Str),(relabel {kind:=.function,names:=names,isGenerator:=false,isCoroutine:=false} env).names.lookup x=(names.lookup x).map (aoA env x)
 |[],_=>rfl
 |(n,k)::r,x=>by
  have ih:=ad3 (env:=env) r x
  unfold relabel at ih ⊢
  dsimp only at ih ⊢
  rw[bD]
  dsimp only
  rw[aAB,cZ,cZ,ih]
  cases hx:x==n with
  |true=>
   have e:x=n:=by simpa using hx
   rw[e]
   rfl
  |false=>rfl
theorem adH{env:Env}(scope:Scope)(x:Str):(relabel scope env).names.lookup x=(scope.names.lookup x).map (aoA env x):=ad3 scope.names x
theorem amK{env:Env}{x:Str}{o:Option NameKind}(hc:o≠some .cell)(h:o.map (aoA env x)=some .cell∨o.map (aoA env x)=some .free):o=some .free:=by
 cases o with
 |none=>rcases h with h | h<;>cases h
 |some k=>
  by_cases e:k=.free
  ·rw[e]
  ·have z:aoA env x k=k:=by
    unfold aoA
    have e':(k==NameKind.free)=false:=by simpa using e
    rw[e']
    rfl
   rw[c5,z] at h
   rcases h with h | h
   ·exact absurd h hc
   ·exact h
theorem agE{env:Env}{scope:Scope}{x:Str}(h:scope.names.lookup x=some .free):(relabel scope env).names.lookup x=some .cell∨(relabel scope env).names.lookup x=some .free:=by
 rw[adH,h,c5]
 unfold aoA
 split
 ·exact .inl rfl
 ·exact .inr rfl
section
variable{X:Cx}{elt iter:Expr}{x:Str}{px pos:Pos}{ifs:List Expr}{scope:Scope}{cl:List (Str×Addr)}{N':List Str}{js:List Nat}{tt:TT}{te:TE}
theorem ar3{pins:List (Addr×Obj)}{σ:St}{H:Hp}{s s4:Shared}{fp:List Addr}{C:Addr}{m4:Str->Option Value}(hcl:Clos X scope cl)(hN:js.map (fun j=>X.N[j]?)=N'.map some)
  (hk:N'.all (fun y=>(X.env.kindOf y==some .cell)||(X.env.kindOf y==some .free))=true) (hf:N'.all (fun y=>scope.names.lookup y==some .free)=true)
  (I:Inv X pins σ H s) (hfp:∀b∈fp,adB X pins H b/\b<s.heap.objs.size) (hC:C=s.heap.objs.size) (ho:s4.os=s.os) (hg:s4.gens=s.gens) (hkeep:∀b o,s.heap.get? b=some o->s4.heap.get? b=some o) (hn:s4.heap.Ns C m4):
  Inv (aaM X (x::N') scope cl C fp pins s H) [] (none::aaZ js σ) H s4:=by
 have hne:∀b o,s.heap.get? b=some o->b≠C:=fun b o e=>by rw[hC];exact aY (aV e)
 refine⟨⟨I.ok.mod,hcl.kind,I.ok.glob,I.ok.blt,Nat.le_of_eq hC.symm,fun y z c h1 h2=>I.ok.inj y z c (hcl.sub y c h1) (hcl.sub z c h2),fun y hy=>hcl.has y (amK (fun z=>hcl.nocell _ (PySem.mem_of_lookup z) rfl) (by rw[←adH];exact hy)),fun y c h _=>(nomatch h),I.ok.hd,I.ok.frames,.inl rfl,fun b hb=>⟨?_,fun y c e=>(hfp b hb).1.2.2.2.2.1 y c (hcl.sub y c e)⟩,
  I.bs,bI I.ok.bsz I.sz,fun b o e hb=>?_,fun b hb hz=>?_,I.stack,I.stkFree⟩,ho,by rw[hg];exact I.bare,Un.kept hkeep,⟨m4,hn,fun i y v h1 h2 h3=>?_⟩,fun y c e=>?_,?_,fun y c e=>I.freeC y c (hcl.sub y c e),fun p hp=>?_,I.hok.kept hkeep,?_⟩
 ·rw[hC];exact aY (hfp b hb).2
 ·rcases (hfp b hb).1.2.2.2.1 with z | z
  ·exact I.ok.noex b o e z
  ·exact absurd (aZ (aV e) (bI I.ok.bsz z)) (cE _)
 ·rcases bB.mp (I.stkSub b hz) with z | z
  ·exact (hfp b hb).1.2.1 z
  ·exact (hfp b hb).1.2.2.1 z
 ·match i,h1,h2 with
  |0,_,h2=>exact nomatch h2
  |i+1,h1,h2=>
   have h1:N'[i]? =some y:=h1
   have h2:(aaZ js σ)[i]? =some (some v):=h2
   have hy:y∈N':=bP h1
   have q:(js.map (fun j=>X.N[j]?))[i]? =some (some y):=by rw[hN,bE,h1];rfl
   rw[bE] at q
   cases ej:js[i]? with
   |none=>rw[ej] at q;cases q
   |some j=>
    rw[ej] at q
    have q:X.N[j]? =some y:=bA q
    unfold aaZ at h2
    rw[bE,ej] at h2
    have h2:(σ[j]?).getD none=some v:=bA h2
    have h2:σ[j]? =some (some v):=by
     cases e:σ[j]? with
     |none=>rw[e] at h2;cases h2
     |some o=>rw[e] at h2;exact congrArg some h2
    have kk:=bW.mp hk y hy
    have kk:X.env.kindOf y=some .cell∨X.env.kindOf y=some .free:=by simpa using kk
    have ff:=bW.mp hf y hy
    have ff:scope.names.lookup y=some .free:=by simpa using ff
    obtain⟨m,_,hl⟩:=I.loc
    obtain⟨u,r,l⟩:=hl j y v q h2 (by rcases kk with z | z;exact .inr (.inl z);exact .inr (.inr z))
    refine⟨u,r,.inr ⟨agE ff,?_⟩⟩
    obtain⟨c,hc⟩:=hcl.has y ff
    rcases l with ⟨z,_⟩ | ⟨_,c',e',cell⟩
    ·rcases kk with k | k<;>(rw[k] at z;cases z)
    ·rw[hcl.sub y c hc] at e'
     cases e'
     exact⟨c,hc,cell.keeps hkeep⟩
 ·obtain⟨v,q⟩:=I.cell y c (hcl.sub y c e)
  exact⟨v,q.keeps hkeep⟩
 ·show H C=none
  rw[hC]
  exact I.hok.fresh (aS _)
 ·have hp:p∈X.pn++pins:=by
   have hp:p∈(X.pn++pins)++[]:=hp
   rwa [cI] at hp
  obtain⟨e,n,ne,nf,d⟩:=I.pin p hp
  refine⟨hkeep _ _ e,n,hne _ _ e,fun z=>?_,d⟩
  rcases bB.mp (I.stkSub p.1 z) with z | z
  ·exact ne z
  ·exact nf z
 ·show (aaZ js σ).length+1=N'.length+1
  have q:=congrArg List.length hN
  rw[aU,aU] at q
  unfold aaZ
  rw[aU,q]
end
theorem akK{prog:Program}{w:World}{A:Around}{R:Result->Shared->Prop}{s:Shared}{elt tg iter:Expr}{ifs:List Expr}{scope:Scope}{pos:Pos}{it acc:Value}{env:Env}{EN:Value->Shared->Prop}
  (hEN:EN=notedBy (model prog w) A env fun e s'=>R (.error e) s') (B:Nat->Shared->Prop)
  (turn:∀n s,B n s->wpAny (model prog w) A (pyNext it) (fun r s₁=>match r with
   |none=>R (.ok .next) s₁
   |some v=>wpAny (model prog w) A (letOwnedTupleGo tg it v) (fun _ s₂=>wpAny (model prog w) A (assign tg env v) (fun _ s₃=>
     wpAny (model prog w) A (auR ifs env) (fun ok s₄=>
      if ok=true then wpAny (model prog w) A (eval elt env) (fun z s₅=>wpAny (model prog w) A (call (.builtin "list.append") [acc,z]) (fun _ s₆=>∃m,m<n/\B m s₆) EN s₅) EN s₄
      else ∃m,m<n/\B m s₄) EN s₃) EN s₂) EN s₁) EN s) (n:Nat) (h:B n s):
  codeAny (model prog w) A (.compLoop (.ListComp elt [⟨tg,iter,ifs,0⟩] scope pos) 0 it acc env) R s:=by
 subst hEN
 refine codeAny_loop rfl B (fun n s hI=>?_) n h
 refine wpAny_noted (m:=compTurn (.ListComp elt [⟨tg,iter,ifs,0⟩] scope pos) 0 it acc env) ?_
 rw[compTurn_list]
 refine dM (wpAny_standAt (dM (dN (turn n s hI) (fun r s₁ h₁=>?_) fun _ _ z=>z)))
 cases r with
 |none=>exact dY h₁
 |some v=>
  refine dM (dN h₁ (fun _ s₂ h₂=>?_) fun _ _ z=>z)
  refine dM (dN h₂ (fun _ s₃ h₃=>?_) fun _ _ z=>z)
  refine dM (dN h₃ (fun ok s₄ h₄=>?_) fun _ _ z=>z)
  cases ok with
  |false=>exact dY ⟨rfl,h₄⟩
  |true=>
   refine dM (dM (dN h₄ (fun z s₅ h₅=>?_) fun _ _ q=>q))
   exact dM (dN h₅ (fun _ s₆ h₆=>dY (dY ⟨rfl,h₆⟩)) fun _ _ q=>q)
section
variable{X:Cx}{elt iter:Expr}{x:Str}{px pos:Pos}{ifs:List Expr}{scope:Scope}{cl:List (Str×Addr)}{N':List Str}{js:List Nat}{tt:TT}{te:TE}
theorem aw0{pins:List (Addr×Obj)}{σ σ':St}{H H':Hp}{s s':Shared}{fp:List Addr}{C:Addr}(I:Inv X pins σ H s)(hfp:∀b∈fp,adB X pins H b)(J:Inv (aaM X (x::N') scope cl C fp pins s H) [] σ' H' s'):Inv X pins σ H' s':=
 I.call' (ch:=fp) J.os J.base J.hok J.bare fun b hb=>⟨(hfp b hb).2.2.2.1,(hfp b hb).2.1,(hfp b hb).2.2.2.2.1,(hfp b hb).2.2.2.2.2⟩
theorem ak0{pins:List (Addr×Obj)}{σ:St}{H:Hp}{s:Shared}{Q:VK}{RR:Value->Addr->Result->Shared->Prop}{J:It}{fp:List Addr}{it:Addr}{tn:Nat->Heap->Prop}
  (hcl:Clos X scope cl) (hx:scope.names.lookup x=some .local) (hnd:(x::N').Nodup) (hN:js.map (fun j=>X.N[j]?)=N'.map some)
  (hk:N'.all (fun y=>(X.env.kindOf y==some .cell)||(X.env.kindOf y==some .free))=true) (hf:N'.all (fun y=>scope.names.lookup y==some .free)=true) (hc:X.calm=true)
  (ht:∀(C:Addr) (ex:List Addr) (pins:List (Addr×Obj)) (s:Shared) (H:Hp),PF (aaM X (x::N') scope cl C ex pins s H) ifs tt)
  (he:∀(C:Addr) (ex:List Addr) (pins:List (Addr×Obj)) (s:Shared) (H:Hp),PE (aaM X (x::N') scope cl C ex pins s H) elt te)
  (I:Inv X pins σ H s) (T:Turn X.prog X.w X.K (.Name x px) J fp it tn) (st:tn 0 s.heap) (hfp:∀b∈fp,adB X pins H b)
  (q:∀D,H D=none->∃W:Nat->Nat->Hp->Prop,(∃m,W 0 m (upd H D (.lst [])))/\∀i m H2,W i m H2->
   (J.stop i H2/\Q (.ref D) H2)∨(J.go i H2/\∀v H3,J.yld i H2 v H3->tt (some v::aaZ js σ) H3 fun b H4=>if b=true then
    te (some v::aaZ js σ) H4 fun y H5=>∃ys,H5 D=some (.lst ys)/\ys.length<sizeLine/\∃m',m'<m/\W (i+1) m' (upd H5 D (.lst (ys++[y])))
    else ∃m',m'<m/\W (i+1) m' H4))
  (hRR:∀(D C:Addr) (s':Shared) (H':Hp) (m:Str->Option Value),Inv X pins σ H' s'->H' C=none->C≠X.env.locals->X.s₀.heap.objs.size<=C->(∀y c,X.env.cells.lookup y=some c->c≠C)->(∀p∈X.pn++pins,p.1≠C)->s'.heap.Ns C m->Q (.ref D) H'->RR (.ref D) C (.ok .next) s'):
  wpAny (model X.prog X.w) X.A (newList []) (fun acc s₃=>wpAny (model X.prog X.w) X.A (newFunctionEnv scope X.env.globals cl [] X.env.qual none .none (some X.env)) (fun cenv s₄=>
   codeAny (model X.prog X.w) X.A (.compStart (.ListComp elt [⟨.Name x px,iter,ifs,0⟩] scope pos) 0 (.ref it) acc {cenv with scope:=relabel scope X.env}) (RR acc cenv.locals) s₄) X.xe s₃) X.xe s:=by
 refine wpAny_newObj_type ?_
 have hD:H s.heap.objs.size=none:=I.hok.fresh (aS _)
 have I3:Inv X pins σ (upd H s.heap.objs.size (.lst [])) {s with heap:=s.heap.push {cls:=.type "list",dict:=none,data:=.seq ([]:List Value).toArray} }:=I.lnew (its:=[]) (t':=s.toks) .nil (bO _)
 have hfp3:∀b∈fp,adB X pins (upd H s.heap.objs.size (.lst [])) b/\b<(s.heap.push {cls:=.type "list",dict:=none,data:=.seq ([]:List Value).toArray}).objs.size:=fun b hb=>by
  obtain⟨o,ho,_⟩:=T.obj 0 _ st b hb
  have hlt:=aV ho
  obtain⟨f0,f1⟩:=hfp b hb
  exact⟨⟨by rw[aaF (aY hlt)];exact f0,f1⟩,by rw[Heap.size_push];exact Nat.lt_succ_of_lt hlt⟩
 have st3:tn 0 (s.heap.push {cls:=.type "list",dict:=none,data:=.seq ([]:List Value).toArray}):=T.keep _ _ _ st fun b _ o e=>a8 _ e
 obtain⟨W,⟨m0,w0⟩,turn⟩:=q s.heap.objs.size hD
 generalize hs3:({s with heap:=s.heap.push {cls:=.type "list",dict:=none,data:=.seq ([]:List Value).toArray} }:Shared)=s3 at I3 ⊢
 have hh3:s.heap.push {cls:=.type "list",dict:=none,data:=.seq ([]:List Value).toArray}=s3.heap:=by rw[←hs3]
 rw[hh3] at hfp3 st3
 generalize s.heap.objs.size=D at I3 hfp3 w0 turn hD ⊢
 generalize upd H D (.lst [])=H3 at I3 hfp3 w0
 refine wpAny_newFunctionEnv hcl.nocell (by intro y hy;simp at hy) (fun h₁ hns₁ hsb₁=>?_) hcl.kind
 have hkeep:∀b o,s3.heap.get? b=some o->h₁.get? b=some o:=fun b o e=>hsb₁.extBut b o (aY (aV e)) (a8 _ e)
 have J4:Inv (aaM X (x::N') scope cl s3.heap.objs.size fp pins s3 H3) [] (none::aaZ js σ) H3 {s3 with heap:=h₁,toks:=s3.toks+([]:List (Str×Value)).length}:=
  ar3 hcl hN hk hf I3 hfp3 rfl rfl rfl hkeep hns₁
 have st4:tn 0 h₁:=T.keep _ _ _ st3 fun b _ o e=>hkeep b o e
 have cell':∀{s':Shared} {σ':St} {H':Hp},Inv (aaM X (x::N') scope cl s3.heap.objs.size fp pins s3 H3) [] σ' H' s'->Q (.ref D) H'->RR (.ref D) s3.heap.objs.size (.ok .next) s':=fun {s' σ' H'} J hq=>by
  obtain⟨m,hn,_⟩:=J.loc
  refine hRR D _ s' H' m (aw0 I3 (fun b hb=>(hfp3 b hb).1) J) J.free (Nat.ne_of_gt I3.lt) I3.sz (fun y c e z=>?_) (fun p hp z=>?_) hn hq
  ·obtain⟨v,k⟩:=I3.cell y c e
   exact absurd k.lt (by rw[z];exact cE _)
  ·exact absurd (aV (I3.pin p hp).1) (by rw[z];exact cE _)
 have fpX:∀{H':Hp},(∀b∈fp,H' b=none)->∀b∈fp,adB (aaM X (x::N') scope cl s3.heap.objs.size fp pins s3 H3) [] H' b:=fun {H'} hn b hb=>by
  obtain⟨⟨f0,f1,f2,f3,f4,f5⟩,flt⟩:=hfp3 b hb
  refine⟨hn b hb,aY flt,fun z=>?_,.inl hb,fun y c e=>f4 y c (hcl.sub y c e),fun p hp=>?_⟩
  ·rcases bB.mp (I3.stkSub b z) with z | z
   ·exact f1 z
   ·exact f2 z
  ·have hp:p∈(X.pn++pins)++[]:=hp
   rw[cI] at hp
   exact f5 p hp
 have loop:∀s₄:Shared,s₄={s3 with heap:=h₁,toks:=s3.toks+([]:List (Str×Value)).length}->
   codeAny (model X.prog X.w) X.A (.compLoop (.ListComp elt [⟨.Name x px,iter,ifs,0⟩] scope pos) 0 (.ref it) (.ref D) (compEnvC scope cl s3.heap.objs.size X.env)) (RR (.ref D) s3.heap.objs.size) s₄:=by
  rintro s₄ rfl
  refine akK rfl (fun n s'=>∃i σ0 H',Inv (aaM X (x::N') scope cl s3.heap.objs.size fp pins s3 H3) [] (σ0::aaZ js σ) H' s'/\tn i s'.heap/\(∀b∈fp,H' b=none)/\W i n H') ?_ m0 ⟨0,none,H3,J4,st4,fun b hb=>(hfp3 b hb).1.1,w0⟩
  rintro n s5 ⟨i,σ0,H5,J5,st5,fr5,w5⟩
  rcases turn i n H5 w5 with ⟨stop,qn⟩ | ⟨go,step⟩
  ·refine dN (T.done (aaM X (x::N') scope cl s3.heap.objs.size fp pins s3 H3) rfl rfl rfl hc i [] s5 _ H5 (fun _ _=>False) J5 (fpX fr5) st5 stop) (fun r s6 ⟨hr,J6⟩=>?_) fun _ _ z=>z.elim
   subst hr
   exact cell' J6 qn
  ·refine dN (T.item (aaM X (x::N') scope cl s3.heap.objs.size fp pins s3 H3) rfl rfl rfl hc i [] s5 _ H5 (fun _ _=>False) J5 (fpX fr5) st5 go) (fun r s6 ⟨u,hr,h6⟩=>?_) fun _ _ z=>z.elim
   subst hr
   refine dN h6 (fun _ s6' h6'=>?_) fun _ _ z=>z.elim
   obtain⟨v,H6,J6,r6,y6,st6,fr6⟩:=h6'
   clear h6
   have J6':=J6.pinned (fpX fr6) (T.obj _ _ st6)
   show wpAny _ _ (assign (.Name x px) _ u) _ _ _
   refine wpAny_assign_Name (ad2 (i:=0) J6' hnd rfl (.inl (lookup_relabel_local hx)) r6 (fun s7 J7=>?_) (.inr (lookup_relabel_local hx)))
   have J7:Inv (aaM X (x::N') scope cl s3.heap.objs.size fp pins s3 H3) ([]++af0 fp s6'.heap) (some v::aaZ js σ) H6 s7:=J7
   have again:∀{σ8:St} {H8:Hp} {s8:Shared},Inv (aaM X (x::N') scope cl s3.heap.objs.size fp pins s3 H3) ([]++af0 fp s6'.heap) σ8 H8 s8->tn (i+1) s8.heap/\∀b∈fp,H8 b=none:=fun {σ8 H8 s8} J8=>by
    refine⟨T.keep _ _ _ st6 fun b hb o e=>(J8.pin (b,o) (bN _ (bN _ (abX hb e)))).1,fun b hb=>?_⟩
    obtain⟨o,e,d⟩:=T.obj _ _ st6 b hb
    exact (J8.pin (b,o) (bN _ (bN _ (abX hb e)))).2.1
   refine dN (ht _ _ _ _ _ _ s7 _ H6 _ J7 (step v H6 y6)) (fun ok s8 ⟨H8,J8,q8⟩=>?_) fun _ _ z=>z.elim
   cases ok with
   |false=>
    obtain⟨m',hm,w8⟩:=(show ∃m',m'<n/\W (i+1) m' H8 from q8)
    obtain⟨a1,a2⟩:=again J8
    exact⟨m',hm,i+1,some v,H8,J8.unpinned,a1,a2,w8⟩
   |true=>
    refine dN (he _ _ _ _ _ _ s8 _ H8 _ J8 q8) (fun y s9 ⟨z,H9,J9,r9,ys,hys,hlen,m',hm,w9⟩=>?_) fun _ _ z=>z.elim
    refine dN (ag6 (X:=aaM X (x::N') scope cl s3.heap.objs.size fp pins s3 H3) _ s9 _ H9 (.ref D) [z] (.ref D) [y] (fun _ H10=>H10=upd H9 D (.lst (ys++[z]))) J9 rfl (.cons r9 .nil) ⟨D,ys,z,rfl,rfl,hys,hlen,rfl⟩) (fun _ s10 ⟨_,H10,J10,_,e10⟩=>?_) fun _ _ z=>z.elim
    subst e10
    obtain⟨a1,a2⟩:=again J10
    exact⟨m',hm,i+1,some v,_,J10.unpinned,a1,a2,w9⟩
 exact codeAny_compStart_list (loop _ rfl) (T.self _ 0 _ _ _ st4 (loop _ rfl))
theorem azL{wi:TI}(hcl:Clos X scope cl)(hx:scope.names.lookup x=some .local)(hnd:(x::N').Nodup)(hN:js.map (fun j=>X.N[j]?)=N'.map some)
  (hk:N'.all (fun y=>(X.env.kindOf y==some .cell)||(X.env.kindOf y==some .free))=true) (hf:N'.all (fun y=>scope.names.lookup y==some .free)=true) (hc:X.calm=true)
  (hi:PI X (.Name x px) iter wi)
  (ht:∀(C:Addr) (ex:List Addr) (pins:List (Addr×Obj)) (s:Shared) (H:Hp),PF (aaM X (x::N') scope cl C ex pins s H) ifs tt)
  (he:∀(C:Addr) (ex:List Addr) (pins:List (Addr×Obj)) (s:Shared) (H:Hp),PE (aaM X (x::N') scope cl C ex pins s H) elt te)
  (hs:∀x,foldedSetIterable iter X.env x=pure x:=by intro _;rfl):
  PE X (.ListComp elt [⟨.Name x px,iter,ifs,0⟩] scope pos) (ayH wi js tt te):=by
 intro pins s σ H Q I h
 rw[eval_ListComp]
 refine wpAny_comprehension_free (use:=none) rfl hs hcl.is hcl.kind hcl.names (thn (hi pins s σ H _ I h) fun xv s₁ h₁=>thn h₁ fun itv s₂ h₂=>?_)
 obtain⟨it,fp,tn,J,H2,rfl,I2,T,st,hfp,q⟩:=h₂
 refine ak0 (RR:=fun acc C=>compPost (model X.prog X.w) X.A X.xe none (EP X pins σ Q) acc C) hcl hx hnd hN hk hf hc ht he I2 T st hfp q ?_
 intro D C s' H' m I' hC0 hCL hCs hCc hCp hn hq
 refine⟨m,hn,fun h' sb=>⟨.ref D,H',?_,rfl,hq⟩⟩
 exact I'.turned (t':=s'.toks) (fun b o hb e=>(sb.2 b hb).trans e) hC0 hCL (.inr hCs) hCc hCp
end
theorem af9(env:Env):∀(names:List (Str×NameKind)) (acc:List (Str×Addr)),names.all (fun y=>y.2 != .free||(env.cells.lookup y.1).isSome)=true->
  ∃cl:List (Str×Addr),(forIn (m:=Sem) names acc fun x r=>(do
   let (name,kind):=x
   if kind== .free then do let c ←cellOf env name;pure (ForInStep.yield ((name,c)::r)) else pure (ForInStep.yield r)))=(pure cl:Sem _)/\
   (∀y c,cl.lookup y=some c->env.cells.lookup y=some c∨acc.lookup y=some c)/\(∀y,(∃c,acc.lookup y=some c)->∃c,cl.lookup y=some c)/\(∀y,(y,NameKind.free)∈names->∃c,cl.lookup y=some c)
 |[],acc,_=>⟨acc,rfl,fun _ _ h=>.inr h,fun _ h=>h,fun _ h=>nomatch h⟩
 |(n,k)::r,acc,h=>by
  rw[List.all_cons,bH] at h
  by_cases hk:k=.free
  ·subst hk
   have h1:(env.cells.lookup n).isSome=true:=by simpa using h.1
   obtain⟨c,hc⟩:=cX.mp h1
   obtain⟨cl,e,p1,p2,p3⟩:=af9 env r ((n,c)::acc) h.2
   refine⟨cl,?_,fun y c' hy=>?_,fun y hy=>?_,fun y hy=>?_⟩
   ·rw[←e]
    have q:cellOf env n=(pure c:Sem Addr):=by unfold cellOf;rw[hc]
    rw[List.forIn_cons]
    dsimp only
    rw[if_pos (show (NameKind.free==NameKind.free)=true from rfl),q]
    rfl
   ·rcases p1 y c' hy with z | z
    ·exact .inl z
    ·rw[cZ] at z
     cases hyn:y==n with
     |true=>
      rw[hyn] at z
      have e1:y=n:=by simpa using hyn
      have e2:c=c':=by simpa using z
      rw[e1,←e2]
      exact .inl hc
     |false=>
      rw[hyn] at z
      exact .inr z
   ·refine p2 y ?_
    rw[cZ]
    cases hyn:y==n with
    |true=>exact⟨c,rfl⟩
    |false=>exact hy
   ·rcases bB.mp hy with z | z
    ·refine p2 y ⟨c,?_⟩
     have e1:y=n:=(Prod.mk.inj z).1
     rw[e1,cZ]
     simp
    ·exact p3 y z
  ·obtain⟨cl,e,p1,p2,p3⟩:=af9 env r acc h.2
   have hk':(k==NameKind.free)=false:=by simpa using hk
   refine⟨cl,?_,p1,p2,fun y hy=>?_⟩
   ·rw[←e]
    rw[List.forIn_cons]
    dsimp only
    rw[if_neg (by rw[hk'];exact a9)]
    rfl
   ·rcases bB.mp hy with z | z
    ·exact absurd (Prod.mk.inj z).2.symm hk
    ·exact p3 y z
theorem aoC{X:Cx}{scope:Scope}(h:scope.names.all (fun y=>y.2 != .free||(X.env.cells.lookup y.1).isSome)=true)(h2:scope.names.all (fun y=>y.2 != .cell)=true)(h3:scope.kind=.function)
  (h4:scope.names.all (fun y=>y.2 != .local||scope.names.lookup y.1==some .local)=true):∃cl,Clos X scope cl:=by
 obtain⟨cl,e,p1,p2,p3⟩:=af9 X.env scope.names [] h
 refine⟨cl,?_,fun y c hy=>?_,fun y hy=>p3 y (PySem.mem_of_lookup hy),fun y hy=>by simpa using bW.mp h2 y hy,h3,fun y hy hl=>?_⟩
 ·unfold closureFor
  exact Eq.trans (congrArg (fun t:Sem (List (Str×Addr))=>t >>=fun r=>(pure r:Sem (List (Str×Addr)))) e) rfl
 ·rcases p1 y c hy with z | z
  ·exact z
  ·simp at z
 ·have q:=bW.mp h4 y hy
  simpa [hl] using q
section
variable{js:List Nat}{σ:St}{tt:TT}{te:TE}{Q:VK}{H1:Hp}
theorem adL{lo:Int}{n:Nat}(R:Nat->List V->Prop)(hn:n<=sizeLine)(h0:R 0 [])
  (hs:∀(i:Nat) (l:List V) (D:Addr) (H2:Hp) (E:V->Hp->Prop) (F:Hp->Prop),i<n->R i l->H1 D=none->Same H1 H2->H2 D=some (.lst l)->(∀y H5,Same H2 H5->R (i+1) (l++[y])->E y H5)->(∀H4,Same H2 H4->R (i+1) l->F H4)->
   tt (some (.int (lo+i))::aaZ js σ) H2 fun b H4=>if b=true then te (some (.int (lo+i))::aaZ js σ) H4 E else F H4)
  (hd:∀(D:Addr) (H2:Hp) (l:List V),R n l->H1 D=none->Same H1 H2->H2 D=some (.lst l)->Q (.ref D) H2):atB (Itr lo n) js σ tt te Q H1:=by
 intro D hD
 refine⟨fun i m H2=>m=n-i/\i<=n/\Same H1 H2/\∃l,H2 D=some (.lst l)/\l.length<=i/\R i l,⟨n,by simp,bO _,aaB hD _,[],aaA,aS _,h0⟩,?_⟩
 rintro i m H2 ⟨rfl,hi,s2,l,h2,hll,hR⟩
 by_cases hlt:i<n
 ·refine .inr ⟨hlt,fun v H3 y=>?_⟩
  obtain⟨e,ev⟩:=y
  subst e ev
  refine hs i l D _ _ _ hlt hR hD s2 h2 (fun z H5 s5 r5=>?_) (fun H4 s4 r4=>?_)
  ·refine⟨l,s5 _ _ h2,dD hll (aZ hlt hn),n-(i+1),by omega,rfl,hlt,fun b o hb=>?_,l++[z],aaA,by rw[aW,bV];omega,r5⟩
   rw[aaF (aaI hb hD)]
   exact s5 _ _ (s2 _ _ hb)
  ·exact⟨n-(i+1),by omega,rfl,hlt,s2.trans s4,l,s4 _ _ h2,by omega,r4⟩
 ·have e:i=n:=by omega
  subst e
  exact .inl ⟨aS _,hd D H2 l hR hD s2 h2⟩
end
structure E(X:Cx)(e:Expr)(t:TE):Prop where
 h:PE X e t
structure T(X:Cx)(e:Expr)(t:TT):Prop where
 h:PT X e t
structure TW(X:Cx)(e:Expr)(t:TT):Prop where
 h:PW X e t
structure As(X:Cx)(es:List Expr)(t:TA):Prop where
 h:PA X es t
structure S(X:Cx)(st:Stmt)(t:TS):Prop where
 h:PS X st t
structure Ss(X:Cx)(sts:List Stmt)(t:TS):Prop where
 h:PSs X sts t
structure Il(X:Cx)(tg iter:Expr)(wi:TI):Prop where
 h:PI X tg iter wi
structure Gt(X:Cx)(tg:Expr)(t:TG):Prop where
 h:PG X tg t
structure Gts(X:Cx)(ts:List Expr)(t:TGs):Prop where
 h:PGs X ts t
structure Fs(X:Cx)(ifs:List Expr)(t:TT):Prop where
 h:PF X ifs t
structure Op2(X:Cx)(f:Value->Value->Sem Value)(r:R2):Prop where
 h:OpR X f r
structure Op1(X:Cx)(f:Value->Sem Value)(r:V->Hp->VK->Prop):Prop where
 h:UnR X f r
structure Cl1(X:Cx)(f:Value)(r:List V->Hp->VK->Prop):Prop where
 h:adU X f r
structure Ixs(X:Cx)(r:R2):Prop where
 h:IxR X r
section
variable{X:Cx}{a b c e:Expr}{pos p:Pos}{ta tb tc te:TE}{t u:TT}{rest es:List Expr}{tA:TA}{op op':CmpOp}{r r':R2}{x:Str}
theorem v_(i:Nat)(hN:X.N[i]? =some x:=by rfl)(hv:Vis X.env.scope x:=by first | exact Or.inl rfl | exact Or.inr (Or.inl rfl) | exact Or.inr (Or.inr rfl))(hd:(x==("__debug__":Str))=false:=by decide)(hcd:(x==("__classdict__":Str))=false:=by decide):
  E X (.Name x pos) (ay0 i):=⟨aB7 hN hv hd hcd⟩
theorem eI{i j}:E X (.Constant (.int i) j pos) (tC (.int i)):=⟨ayE⟩
theorem eB{k j}:E X (.Constant (.bool k) j pos) (tC (.bl k)):=⟨aL6⟩
theorem eN{j}:E X (.Constant .none j pos) (tC .non):=⟨aCU⟩
theorem eS{z j}:E X (.Constant (.str z) j pos) (tC (.str z)):=⟨awP⟩
theorem eGl{v:V}{w':Value}(hm:X.mg x=some w')(q:RelV v w')(hg:Gl X x:=by rfl)(hd:(x==("__debug__":Str))=false:=by decide):E X (.Name x pos) (tC v):=⟨azJ hg hm q hd⟩
theorem eTy{n:String}(hm:X.mg x=none)(hv:bootBuiltins x=some (.type n))(hg:Gl X x:=by rfl)(hn:x≠"__name__":=by decide)(hd:(x==("__debug__":Str))=false:=by decide):E X (.Name x pos) (tC (.ty n)):=⟨aAR hg hm hv rfl hn hd⟩
theorem eOp{o:Operator}(ho:Op2 X (binaryOp o) r)(ha:E X a ta)(hb:E X b tb):E X (.BinOp a o b pos) (tOp r ta tb):=⟨aKE ho.h ha.h hb.h⟩
theorem eUn{o:UnaryOp}{r1:V->Hp->VK->Prop}(ho:Op1 X (unaryOp o) r1)(ha:E X a ta):E X (.UnaryOp o a pos) (tUn r1 ta):=⟨aNB ho.h ha.h⟩
theorem agR(ho:Op2 X (compareOp op) r)(ha:E X a ta)(hb:E X b tb)(hm:behindInMarks op b=false:=by first | exact ayB _ | rfl):E X (.Compare a [op] [b] pos) (tOp r ta tb):=⟨aAW ho.h ha.h hb.h hm⟩
theorem eCh(ho:Op2 X (compareOp op) r)(ho':Op2 X (compareOp op') r')(ha:E X a ta)(hb:E X b tb)(hc:E X c tc)(hm:lastMarks [op,op'] [b,c]=false:=by with_unfolding_all rfl):E X (.Compare a [op,op'] [b,c] pos) (anH r r' ta tb tc):=⟨ayN ho.h ho'.h ha.h hb.h hc.h hm⟩
theorem tCh(ho:Op2 X (compareOp op) r)(ho':Op2 X (compareOp op') r')(ha:E X a ta)(hb:E X b tb)(hc:E X c tc)(hm:lastMarks [op,op'] [b,c]=false:=by with_unfolding_all rfl):T X (.Compare a [op,op'] [b,c] pos) (atX (anH r r' ta tb tc)):=⟨ayA ho.h ho'.h ha.h hb.h hc.h hm⟩
theorem anS{o}(ha:E X a ta):E X (.BoolOp o [a] pos) ta:=⟨aCY ha.h⟩
theorem asX(ha:E X a ta)(hb:E X (.BoolOp .And (b::rest) pos) tb):E X (.BoolOp .And (a::b::rest) pos) (aBE ta tb):=⟨aC5 ha.h hb.h⟩
theorem eOr(ha:E X a ta)(hb:E X (.BoolOp .Or (b::rest) pos) tb):E X (.BoolOp .Or (a::b::rest) pos) (aHJ ta tb):=⟨aG5 ha.h hb.h⟩
theorem eNot(ha:E X a ta):E X (.UnaryOp .Not a pos) (aBV ta):=⟨aDT ha.h⟩
theorem eIf(hc:T X c t)(ha:E X a ta)(hb:E X b tb):E X (.IfExp c a b pos) (tIf t ta tb):=⟨axM hc.h ha.h hb.h⟩
theorem tCm(ho:Op2 X (compareOp op) r)(ha:E X a ta)(hb:E X b tb)(hm:behindInMarks op b=false:=by first | exact ayB _ | rfl):T X (.Compare a [op] [b] pos) (atX (tOp r ta tb)):=⟨azX ho.h ha.h hb.h hm⟩
theorem tNo(ha:T X a t):T X (.UnaryOp .Not a pos) (aOM t):=⟨aCP ha.h⟩
theorem tVa(ha:E X e te)(he:∀whole,isTrue e X.env whole=(do let v ←whole;standAt e.pos;holding [v] (truthy v)):=by intro _;rfl):T X e (L2.tB te):=⟨aDV ha.h he⟩
theorem ajW(ha:T X a t):TW X (.BoolOp .And [a] pos) t:=⟨azI ha.h⟩
theorem af4(ha:T X a t):TW X (.BoolOp .Or [a] pos) t:=⟨aC2 ha.h⟩
theorem aqR(ha:T X a t)(hb:TW X (.BoolOp .And (b::rest) pos) u):TW X (.BoolOp .And (a::b::rest) pos) (aJH t u):=⟨aCC ha.h hb.h⟩
theorem wOr(ha:T X a t)(hb:TW X (.BoolOp .Or (b::rest) pos) u):TW X (.BoolOp .Or (a::b::rest) pos) (tOr t u):=⟨aH9 ha.h hb.h⟩
theorem tW(ha:TW X e t):T X e t:=⟨ha.h.pt⟩
theorem aN:As X [] alG:=⟨aeQ⟩
theorem aC(ha:E X e te)(hr:As X es tA)(hs:starEach (e::es) X.env=(false,eval e X.env)::starEach es X.env:=by rfl):As X (e::es) (aeF te tA):=⟨acT ha.h hr.h hs⟩
theorem aw6(is:List Int)(h:es.map ap4=is.map some:=by rfl):As X es (aBF is):=⟨atH is h⟩
theorem abM(ha:As X es tA):E X (.List es pos) (aL1 tA):=⟨aEE ha.h⟩
theorem aaX{k}(ha:As X es tA):E X (.Tuple es k pos) (aL2 tA):=⟨aCV ha.h⟩
theorem eIx(hr:Ixs X r)(ha:E X a ta)(hb:E X b tb)(hs:atJ b:=by intro _ _;rfl):E X (.Subscript a b pos) (tOp r ta tb):=⟨aFH hr.h ha.h hb.h hs⟩
theorem eD{k k':Nat}{ps:List Str}{sp:Sp}(D:Df X.prog X.w X.K X.mg X.base x k ps sp)(hr:Room k' X.A)(ha:As X (e::es) tA)(hk:k<=k':=by decide)(hg:Gl X x:=by rfl)
  (hdb:(x==("__debug__":Str))=false:=by decide) (he:starEach (e::es) X.env=(false,eval e X.env)::starEach es X.env:=by rfl) (hpl:(backTo pos (starEach es X.env)).any (·.1)=false:=by rfl):
  E X (.Call (.Name x p) (e::es) [] pos) (at6 sp [] E0 tA):=⟨axB D hr ha.h hk hg hdb he hpl⟩
theorem eCB{id:String}{rc:List V->Hp->VK->Prop}(hc:Cl1 X (.builtin id) rc)(hm:X.mg x=none)(hv:bootBuiltins x=some (.builtin id))(ha:As X (e::es) tA)(hg:Gl X x:=by rfl)(hn:x≠"__name__":=by decide)(hdb:(x==("__debug__":Str))=false:=by decide)
  (he:starEach (e::es) X.env=(false,eval e X.env)::starEach es X.env:=by rfl) (hpl:(backTo pos (starEach es X.env)).any (·.1)=false:=by rfl):E X (.Call (.Name x p) (e::es) [] pos) (tCB rc tA):=⟨axF hc.h hg hm hv ha.h hn hdb he hpl⟩
theorem eCT{n:String}{rc:List V->Hp->VK->Prop}(hc:Cl1 X (.type n) rc)(hm:X.mg x=none)(hv:bootBuiltins x=some (.type n))(ha:As X (e::es) tA)(hg:Gl X x:=by rfl)(hn:x≠"__name__":=by decide)(hdb:(x==("__debug__":Str))=false:=by decide)
  (he:starEach (e::es) X.env=(false,eval e X.env)::starEach es X.env:=by rfl) (hpl:(backTo pos (starEach es X.env)).any (·.1)=false:=by rfl):E X (.Call (.Name x p) (e::es) [] pos) (tCB rc tA):=⟨av5 hc.h hg hm hv ha.h hn hdb he hpl⟩
end
section
variable{X:Cx}
theorem aaN:Op2 X (binaryOp .Add) (rI0 fun i j=>.int (i+j)):=⟨aB1⟩
theorem abE:Op2 X (binaryOp .Sub) (rI0 fun i j=>.int (i-j)):=⟨aDP⟩
theorem ab7:Op2 X (binaryOp .Mult) (rI CMul fun i j=>.int (i*j)):=⟨aCG⟩
theorem afY:Op2 X (binaryOp .FloorDiv) (rI aEV fun i j=>.int (i / j)):=⟨az3⟩
theorem abG:Op2 X (binaryOp .Mod) (rI (fun _ j=>0<j) fun i j=>.int (i%j)):=⟨aD8⟩
theorem av7:Op2 X (binaryOp .Pow) (rI az4 fun i j=>.int (i^j.toNat)):=⟨aB4⟩
theorem alJ:Op2 X (binaryOp .LShift) (rI az4 fun i j=>.int (i*2^j.toNat)):=⟨aCX⟩
theorem axC:Op2 X (binaryOp .RShift) (rI (fun _ j=>0<=j) fun i j=>.int (i / 2^j.toNat)):=⟨aDL⟩
theorem avQ:Op2 X (binaryOp .BitAnd) (rI0 fun i j=>.int (Builtin.bitAnd i j)):=⟨aCQ⟩
theorem oOr:Op2 X (binaryOp .BitOr) (rI0 fun i j=>.int (Builtin.bitOr i j)):=⟨aOA⟩
theorem ayG:Op2 X (binaryOp .Add) aMJ:=⟨aDM⟩
theorem oEq:Op2 X (compareOp .Eq) rEq:=⟨aIW⟩
theorem oNe:Op2 X (compareOp .NotEq) rNe:=⟨aOB⟩
theorem oLt:Op2 X (compareOp .Lt) (rI0 fun i j=>.bl (decide (i<j))):=⟨aKV⟩
theorem oLe:Op2 X (compareOp .LtE) (rI0 fun i j=>.bl (decide (i<=j))):=⟨aEP⟩
theorem oGt:Op2 X (compareOp .Gt) (rI0 fun i j=>.bl (decide (j<i))):=⟨aGS⟩
theorem oGe:Op2 X (compareOp .GtE) (rI0 fun i j=>.bl (decide (j<=i))):=⟨aGY⟩
theorem xL:Ixs X (aJ4 X.K):=⟨az1⟩
theorem xT:Ixs X (aEY X.K):=⟨aB2⟩
theorem ao0:Cl1 X (.builtin "len") (fun xs H Q=>∃p ys,xs=[.ref p]/\(SqL X.K H p ys∨SqT X.K H p ys)/\Q (.int ys.length) H):=⟨anV⟩
theorem aK4:Cl1 X (.builtin "abs") (fun xs H Q=>∃i,xs=[.int i]/\Q (.int (if i<0 then -i else i)) H):=⟨awS⟩
theorem cMax(hc:X.calm=true:=by rfl):Cl1 X (.builtin "max") (fun xs H Q=>∃i j,xs=[.int i,.int j]/\Q (.int (if j>i then j else i)) H):=⟨avA hc⟩
theorem aNZ(hc:X.calm=true:=by rfl):Cl1 X (.builtin "min") (fun xs H Q=>∃i j,xs=[.int i,.int j]/\Q (.int (if j<i then j else i)) H):=⟨avX hc⟩
theorem cII:Cl1 X (.builtin "isinstance") (fun xs H Q=>∃i:Int,xs=[.int i,.ty "int"]/\Q (.bl true) H):=⟨asH⟩
theorem cIB:Cl1 X (.builtin "isinstance") (fun xs H Q=>∃i:Int,xs=[.int i,.ty "bool"]/\Q (.bl false) H):=⟨asP⟩
end
section
variable{X:Cx}{e c iter tg:Expr}{te:TE}{tt:TT}{tA:TA}{wi:TI}{g:TG}{t u tb:TS}{st:Stmt}{rest body ba bb:List Stmt}{pos pos' p:Pos}{x:Str}{a1 a2:Expr}
theorem ssN:Ss X [] aBN:=⟨ay8⟩
theorem ssC(h1:S X st t)(h2:Ss X rest u):Ss X (st::rest) (azD t u):=⟨ayF h1.h h2.h⟩
theorem ss1(h1:S X st t):Ss X [st] t:=⟨aAS h1.h⟩
theorem an2:S X st aw5:=⟨awG⟩
theorem aaG(he:E X e te):S X (.Return (some e) pos) (aMT te):=⟨aCT he.h⟩
theorem sIf(hc:T X c tt)(ha:Ss X ba t)(hb:Ss X bb u):S X (.If c ba bb pos) (aGE tt t u):=⟨aKL hc.h ha.h hb.h⟩
theorem alX(he:E X e te)(hs:swapsWith e none pos.line X.env=pure false:=by rfl):S X (.Expr e pos) (aBC te):=⟨aAU he.h hs⟩
theorem aaH(i:Nat)(he:E X e te)(hN:X.N.Nodup)(hi:X.N[i]? =some x:=by rfl)(hx:Loc X.env.scope x:=by first | exact Or.inl rfl | exact Or.inr rfl)(hs:swapsWith e (some (.Name x pos')) pos.line X.env=pure false:=by rfl)
  (hf:X.fn x=true∨X.env.scope.names.lookup x=some .local:=by first | exact .inl rfl | exact .inr rfl):S X (.Assign [.Name x pos'] e pos) (ar5 te (abV i)):=⟨aEA hN hi hx he.h hs hf⟩
theorem gN(i:Nat)(hN:X.N.Nodup)(hi:X.N[i]? =some x:=by rfl)(hx:Loc X.env.scope x:=by first | exact Or.inl rfl | exact Or.inr rfl)(hf:X.fn x=true∨X.env.scope.names.lookup x=some .local:=by first | exact .inl rfl | exact .inr rfl):Gt X (.Name x pos) (abV i):=⟨aAN hN hi hx hf⟩
theorem afW(hi:Il X tg iter wi)(hg:Gt X tg g)(hb:Ss X body tb)(hp:PassesOwn (model X.prog X.w) X.A X.env X.xe)(hc:X.calm=true:=by rfl)(hs:∀x,foldedSetIterable iter X.env x=pure x:=by intro _;rfl):S X (.For tg iter body [] pos) (aIO wi g tb):=⟨aB9 hp hc hi.h hg.h hb.h hs⟩
theorem sWh(hc:T X c tt)(hb:Ss X body tb)(hp:PassesOwn (model X.prog X.w) X.A X.env X.xe):S X (.While c body [] pos) (asI tt tb):=⟨axT hp hc.h hb.h⟩
theorem iL(hl:E X e te):Il X tg e (aBR X.K te):=⟨azW hl.h⟩
theorem iT(hl:E X e te):Il X tg e (aEO X.K te):=⟨aC9 hl.h⟩
theorem iR1(hm:X.mg "range"=none)(ha:As X [a1] tA)(hg:Gl X "range":=by rfl)(hs:starEach [a1] X.env=[(false,eval a1 X.env)]:=by rfl):Il X tg (.Call (.Name "range" p) [a1] [] pos) (aBI tA):=⟨av3 hg hm ha.h hs⟩
theorem iR2(hm:X.mg "range"=none)(ha:As X [a1,a2] tA)(hg:Gl X "range":=by rfl)(hs:starEach [a1,a2] X.env=[(false,eval a1 X.env),(false,eval a2 X.env)]:=by rfl)(hs2:starEach [a2] X.env=[(false,eval a2 X.env)]:=by rfl):
  Il X tg (.Call (.Name "range" p) [a1,a2] [] pos) (aA4 tA):=⟨avI hg hm ha.h hs hs2⟩
end
section
variable{P:Program}{w:World}{K:FG}{mg:Str->Option Value}{base:Heap}{x:Str}{st:Stmt}{ps N:List Str}{k:Nat}{sp:Sp}
theorem Fn.dfs(F:Fn K mg x st ps)(S':FnScope N ps (aaC st))(len:∀vs H Q E,sp vs H Q E->vs.length=ps.length)
  (hbody:∀(f:Addr) (cdv:Value) (A:Around) (outer:List Env) (s:Shared) (H:Hp) (vs:List V) (Q:VK) (E:XK),Room k (A.deeper (envOfC x (aaC st) s.heap.objs.size f cdv))->sp vs H Q E->
   ∃t,Ss (ai4 CX0 P w K mg base N x (aaC st) f cdv A outer s H E).nox (aaS st) t/\t {nx:=fun _ H'=>Q .non H',rt:=Q} (start N vs) H):Df P w K mg base x (k+1) ps sp:=
 F.df S' len fun f cdv A outer s H vs Q E hr h=>by
  obtain⟨t,h1,h2⟩:=hbody f cdv A outer s H vs Q E hr h
  exact⟨t,h1.h,h2⟩
theorem Fun.oks{f:Addr}{fd:FuncData}(F:Fun K x x st f fd)(S':FnScope N ps (aaC st))(len:∀vs H Q E,sp vs H Q E->vs.length=ps.length)
  (hbody:∀(cdv:Value) (A:Around) (outer:List Env) (s:Shared) (H:Hp) (vs:List V) (Q:VK) (E:XK),Room k (A.deeper (envOfC x (aaC st) s.heap.objs.size f cdv))->sp vs H Q E->
   ∃t,Ss (ai4 CX0 P w K mg base N x (aaC st) f cdv A outer s H E).nox (aaS st) t/\t {nx:=fun _ H'=>Q .non H',rt:=Q} (start N vs) H):FnOk P w K mg base CX0 (k+1) f fd ps sp:=
 F.ok S' len fun cdv A outer s H vs Q E hr h=>by
  obtain⟨t,h1,h2⟩:=hbody cdv A outer s H vs Q E hr h
  exact⟨t,h1.h,h2⟩
end
end L2
namespace L2
open PySem PySem.Spec PyProof.Rows PySem.SeqAt
theorem agW:∀{is:List Int} {us:List Value},Vals (is.map V.int) us->IntsAre us is
 |[],_,.nil=>.nil
 |_::_,_,.cons ⟨_,rfl⟩ r=>.cons _ _ (agW r)
section
variable{X:Cx}
theorem avS(hc:X.calm=true):adU X (.builtin "sum") (fun xs H Q=>∃(p:Addr) (is:List Int),xs=[.ref p]/\SqL X.K H p (is.map V.int)/\Q (.int is.sum) H):=by
 intro pins s σ H xs us Q I r h
 obtain⟨p,is,rfl,hq,q⟩:=h
 obtain⟨u,rfl,r1⟩:=acW r
 cases r1
 obtain⟨its,rv,pl,hz⟩:=I.list hq
 have hi:=agW rv
 obtain⟨ys,hy⟩:=hi.allInts.items
 have hl:s.heap.IsList p (intItems ys):=by rw[←hy];exact pl.isList
 refine sum_intListG (I.ok.hd hc) hl fun h' tk t' hk=>?_
 have e1:is=ys.toList.map (·.1):=by
  rw[←nums_intItems,←hy]
  exact hi.numsOf.symm
 have e2:preSum (numAt ys) ys.size=is.sum:=by
  rw[preSum_eq,dI (by simp),e1]
 rw[e2]
 exact⟨.int is.sum,H,I.kept hk,⟨_,rfl⟩,q⟩
end
section
variable{X:Cx}{elt iter:Expr}{x y:Str}{px py pos spos:Pos}{ifs:List Expr}{scope:Scope}{wi:TI}{tt:TT}{te:TE}
theorem apV(N':List Str)(js:List Nat)(hi:Il X (.Name x px) iter wi)
  (ht:∀(cl:List (Str×Addr)) (C:Addr) (ex:List Addr) (pins:List (Addr×Obj)) (s:Shared) (H:Hp),Fs (aaM X (x::N') scope cl C ex pins s H) ifs tt)
  (he:∀(cl:List (Str×Addr)) (C:Addr) (ex:List Addr) (pins:List (Addr×Obj)) (s:Shared) (H:Hp),E (aaM X (x::N') scope cl C ex pins s H) elt te)
  (hcl:∃cl,Clos X scope cl:=by exact aoC rfl rfl rfl rfl) (hx:scope.names.lookup x=some .local:=by rfl) (hnd:(x::N').Nodup:=by decide +kernel) (hN:js.map (fun j=>X.N[j]?)=N'.map some:=by rfl)
  (hk:N'.all (fun y=>(X.env.kindOf y==some .cell)||(X.env.kindOf y==some .free))=true:=by rfl) (hf:N'.all (fun y=>scope.names.lookup y==some .free)=true:=by rfl) (hc:X.calm=true:=by rfl)
  (hs:∀x,foldedSetIterable iter X.env x=pure x:=by intro _;rfl):E X (.ListComp elt [⟨.Name x px,iter,ifs,0⟩] scope pos) (ayH wi js tt te):=by
 obtain⟨cl,hcl⟩:=hcl
 exact⟨azL hcl hx hnd hN hk hf hc hi.h (fun C ex pins s H=>(ht cl C ex pins s H).h) (fun C ex pins s H=>(he cl C ex pins s H).h) hs⟩
theorem aBX(i:Nat)(N':List Str)(js:List Nat)(hi:Il X (.Name x px) iter wi)
  (ht:∀(cl:List (Str×Addr)) (C:Addr) (ex:List Addr) (pins:List (Addr×Obj)) (s:Shared) (H:Hp),Fs (aaM X (x::N') scope cl C ex pins s H) ifs tt)
  (he:∀(cl:List (Str×Addr)) (C:Addr) (ex:List Addr) (pins:List (Addr×Obj)) (s:Shared) (H:Hp),E (aaM X (x::N') scope cl C ex pins s H) elt te)
  (hXN:X.N.Nodup) (hsw:swapsWith (.ListComp elt [⟨.Name x px,iter,ifs,0⟩] scope pos) (some (.Name y py)) spos.line X.env=pure true:=by rfl)
  (hiN:X.N[i]? =some y:=by rfl) (hy:X.env.scope.names.lookup y=some .local:=by rfl)
  (hcl:∃cl,Clos X scope cl:=by exact aoC rfl rfl rfl rfl) (hx:scope.names.lookup x=some .local:=by rfl) (hnd:(x::N').Nodup:=by decide +kernel) (hN:js.map (fun j=>X.N[j]?)=N'.map some:=by rfl)
  (hk:N'.all (fun y=>(X.env.kindOf y==some .cell)||(X.env.kindOf y==some .free))=true:=by rfl) (hf:N'.all (fun y=>scope.names.lookup y==some .free)=true:=by rfl) (hc:X.calm=true:=by rfl)
  (hs:∀x,foldedSetIterable iter X.env x=pure x:=by intro _;rfl):S X (.Assign [.Name y py] (.ListComp elt [⟨.Name x px,iter,ifs,0⟩] scope pos) spos) (ar5 (ayH wi js tt te) (abV i)):=by
 obtain⟨cl,hcl⟩:=hcl
 refine⟨fun pins s σ H D I h=>?_⟩
 rw[exec_Assign_Name_used _ _ _ _ hsw]
 refine dM (wpAny_standAt (dM ?_))
 show wpAny _ X.A (do let _ ←comprehension (.ListComp elt [⟨.Name x px,iter,ifs,0⟩] scope pos) scope X.env _ (newList []) false (eval iter X.env) (some (assign (.Name y py) X.env))) _ _ s
 refine dM (dN (wpAny_comprehension_free (use:=some (assign (.Name y py) X.env)) (Q:=fun _ s'=>SP X pins D .next s') rfl hs hcl.is hcl.kind hcl.names ?_) (fun _ s' hq=>dY (dY hq)) fun _ _ z=>z)
 refine thn (hi.h pins s σ H _ I h) fun xv s₁ h₁=>thn h₁ fun itv s₂ h₂=>?_
 obtain⟨it,fp,tn,J,H2,rfl,I2,T,st,hfp,q⟩:=h₂
 refine ak0 (Q:=fun v H'=>D.nx (σ.set i (some v)) H') (RR:=fun acc C=>compPost (model X.prog X.w) X.A X.xe (some (assign (.Name y py) X.env)) (fun _ s'=>SP X pins D .next s') acc C) hcl hx hnd hN hk hf hc (fun C ex pins s H=>(ht cl C ex pins s H).h) (fun C ex pins s H=>(he cl C ex pins s H).h) I2 T st hfp q ?_
 intro D' C s' H' m I' hC0 hCL hCs hCc hCp hn hq
 show wpAny _ _ (assign (.Name y py) X.env (.ref D')) _ _ s'
 refine wpAny_assign_Name (am1 I' hXN hiN (.inl hy) (v:=.ref D') rfl (fun s3 I3 sb3=>?_) (.inr hy))
 obtain⟨a3,sb3,e3⟩:=sb3
 have hCa:C≠a3:=by
  rcases e3 with e3 | e3
  ·rw[e3];exact hCL
  ·exact fun z=>hCc y a3 e3 z.symm
 refine⟨m,hn.sameBut sb3 hCa,fun h' sb=>⟨σ.set i (some (.ref D')),H',?_,hq⟩⟩
 exact I3.turned (t':=s3.toks) (fun b o hb e=>(sb.2 b hb).trans e) hC0 hCL (.inr hCs) hCc hCp
theorem fsN:Fs X [] aMQ:=⟨aDE⟩
theorem fs1{c:Expr}(h:T X c tt):Fs X [c] tt:=⟨aDS h.h⟩
theorem cSum(hc:X.calm=true:=by rfl):Cl1 X (.builtin "sum") (fun xs H Q=>∃(p:Addr) (is:List Int),xs=[.ref p]/\SqL X.K H p (is.map V.int)/\Q (.int is.sum) H):=⟨avS hc⟩
theorem gTu{es:List Expr}{k n:Nat}{t:TGs}(h:Gts X es t)(hc:X.calm=true:=by rfl)(hn:(assignEach es X.env).length=n:=by rfl)(hst:(assignEach es X.env).findIdx? (·.1)=none:=by rfl):Gt X (.Tuple es k pos) (ay1 X.K n t):=⟨aDQ hc h.h hn hst⟩
theorem gsN:Gts X [] aDZ:=⟨az2⟩
theorem gsC{e:Expr}{es:List Expr}{t:TG}{u:TGs}(h1:Gt X e t)(h2:Gts X es u)(hs:(assignEach (e::es) X.env).map (·.2)=assign e X.env::(assignEach es X.env).map (·.2):=by rfl):Gts X (e::es) (auK t u):=⟨axG h1.h h2.h hs⟩
theorem aj4{tg e:Expr}{g:TG}(he:E X e te)(hg:Gt X tg g)(hs:swapsWithSole [tg] e pos.line X.env=pure false:=by rfl)(hw:swappedStores [tg] e X.env=pure none:=by rfl)
  (h1:(assignEach [tg] X.env).map (·.2)=[assign tg X.env]:=by rfl):S X (.Assign [tg] e pos) (ar5 te g):=⟨aD0 he.h hg.h hs hw h1⟩
end
section
variable{js:List Nat}{σ:St}{tt:TT}{te:TE}{Q:VK}{H1:Hp}
theorem amM{K:FG}{a:Addr}{xs:List V}(R:Nat->List V->Prop)(hn:xs.length<=sizeLine)(h0:R 0 [])(hq:SqL K H1 a xs)
  (hs:∀(i:Nat) (v:V) (l:List V) (D:Addr) (H2:Hp) (E:V->Hp->Prop) (F:Hp->Prop),xs[i]? =some v->R i l->H1 D=none->Same H1 H2->H2 D=some (.lst l)->(∀y H5,Same H2 H5->R (i+1) (l++[y])->E y H5)->(∀H4,Same H2 H4->R (i+1) l->F H4)->
   tt (some v::aaZ js σ) H2 fun b H4=>if b=true then te (some v::aaZ js σ) H4 E else F H4)
  (hd:∀(D:Addr) (H2:Hp) (l:List V),R xs.length l->H1 D=none->Same H1 H2->H2 D=some (.lst l)->Q (.ref D) H2):atB (Itl K a) js σ tt te Q H1:=by
 intro D hD
 refine⟨fun i m H2=>m=xs.length-i/\i<=xs.length/\Same H1 H2/\∃l,H2 D=some (.lst l)/\l.length<=i/\R i l,⟨xs.length,by simp,bO _,aaB hD _,[],aaA,aS _,h0⟩,?_⟩
 rintro i m H2 ⟨rfl,hi,s2,l,h2,hll,hR⟩
 by_cases hlt:i<xs.length
 ·refine .inr ⟨⟨xs,xs[i],s2.seq hq,by simp[hlt]⟩,fun v H3 y=>?_⟩
  obtain⟨e,ev⟩:=y
  subst e
  have hv:=ev xs (s2.seq hq)
  refine hs i v l D _ _ _ hv hR hD s2 h2 (fun z H5 s5 r5=>?_) (fun H4 s4 r4=>?_)
  ·refine⟨l,s5 _ _ h2,dD hll (aZ hlt hn),xs.length-(i+1),by omega,rfl,hlt,fun b o hb=>?_,l++[z],aaA,by rw[aW,bV];omega,r5⟩
   rw[aaF (aaI hb hD)]
   exact s5 _ _ (s2 _ _ hb)
  ·exact⟨xs.length-(i+1),by omega,rfl,hlt,s2.trans s4,l,s4 _ _ h2,by omega,r4⟩
 ·have e:i=xs.length:=by omega
  subst e
  exact .inl ⟨⟨xs,s2.seq hq,aS _⟩,hd D H2 l hR hD s2 h2⟩
noncomputable def IntsR(i:Nat)(l:List V):Prop:=∃zs:List Int,l=zs.map V.int/\zs.length<=i
theorem IntsR.nil:IntsR 0 []:=⟨[],rfl,aS _⟩
theorem IntsR.one{i:Nat}{l:List V}(h:IntsR i l)(z:Int):IntsR (i+1) (l++[.int z]):=by
 obtain⟨zs,rfl,hl⟩:=h
 exact⟨zs++[z],by rw[bC];rfl,by rw[aW,bV];omega⟩
theorem Same.tup{K:FG}{H H':Hp}{a:Addr}{xs:List V}(e:Same H H')(h:SqT K H a xs):SqT K H' a xs:=by
 rcases h with (h | ⟨o,h⟩) | h
 ·exact .inl (.inl (e _ _ h))
 ·exact .inl (.inr ⟨o,e _ _ h⟩)
 ·exact .inr h
theorem amG{α:Type}(f:Nat->α)(n:Nat):(List.range (n+1)).map f=(List.range n).map f++[f n]:=by rw[List.range_succ,bC];rfl
theorem ag7{c:TT}{tb:TS}{D:Ends}{σ:St}{H:Hp}(Pv:St->Hp->Prop)(μ:St->Hp->Nat)(h0:Pv σ H)
  (hs:∀σ H,Pv σ H->c σ H fun b H1=>if b=true then ∃N:St->Hp->Prop,(∀σ' H',N σ' H'->∃m',m'<μ σ H/\m'=μ σ' H'/\Pv σ' H')/\tb {D with nx:=N,ct:=N,bk:=D.nx} σ H1 else D.nx σ H1):asI c tb D σ H:=
 ⟨fun m σ H=>m=μ σ H/\Pv σ H,⟨_,rfl,h0⟩,by
  rintro m σ H ⟨rfl,p⟩
  exact hs σ H p⟩
theorem aqU{X:Cx}:Op1 X (unaryOp .USub) (rU fun i=>.int (-i)):=⟨aED⟩
end
section
variable{prog:Program}{w:World}{A:Around}{E:Value->Shared->Prop}{s:Shared}
theorem aA5{it l:Addr}{its:Array Value}(hne:l≠it):∀(n i:Nat) (s:Shared) (Q:List Value->Shared->Prop),s.heap.IsListIter it l i->s.heap.IsList l its->i+n<=its.size->
  (∀h',h'.IsListIter it l (i+n)->Heap.SameBut it s.heap h'->Q ((its.toList.drop i).take n) {s with heap:=h'})->wpAny (model prog w) A (draw (.ref it) n) Q E s
 |0,i,s,Q,hit,_,_,hQ=>by
  have z:wpAny (model prog w) A (pure ([]:List Value)) Q E s:=dY (by simpa using hQ s.heap hit (Heap.SameBut.refl ..))
  exact z
 |n+1,i,s,Q,hit,hl,hle,hQ=>by
  have hi:i<its.size:=by omega
  have z:wpAny (model prog w) A (pyNext (.ref it)) (fun r s₁=>wpAny (model prog w) A (match r with | none=>pure [] | some v=>(do let rest ←holding [v] (draw (.ref it) n);pure (v::rest))) Q E s₁) E s:=by
   refine wpAny_pyNext_list_item hit hl (x:=its[i]) (by simp[hi]) fun h₁ hit₁ hs₁=>?_
   refine dM (dP (aA5 hne n (i+1) _ _ hit₁ (hl.extBut hs₁.extBut hne) (by omega) fun h₂ hit₂ hs₂=>dY ?_))
   have hd:its.toList.drop i=its[i]::its.toList.drop (i+1):=by simp[List.drop_eq_getElem_cons,hi]
   have e:i+(n+1)=i+1+n:=by omega
   have q:=hQ h₂ (by rw[e];exact hit₂) (hs₁.trans hs₂)
   rw[hd,List.take_succ_cons] at q
   exact q
  exact dM z
theorem aAE{l:Addr}{its:Array Value}{Q:List Value->Shared->Prop}(hh:A.handled=none)(hl:s.heap.IsList l its)(hQ:∀h',Heap.ExtBut s.heap.objs.size s.heap h'->Q its.toList {s with heap:=h'}):
  wpAny (model prog w) A (unpackItems (.ref l) its.size none) Q E s:=by
 have hne:l≠s.heap.objs.size:=by
  obtain⟨o,ho,_⟩:=hl
  exact aY (aV ho)
 unfold unpackItems
 refine dM ?_
 unfold notIterableAtAll
 refine dM (wpAny_specialOf hl.typeIs slot_list_iter.lookup (dY ?_))
 simp only[Bool.false_eq_true,if_false]
 refine dM (dP (wpAny_pyIter_list hl (dM (dP (aA5 hne its.size 0 _ _ ⟨_,bK _ rfl,rfl,rfl⟩ (hl.push _) (by omega) fun h₁ hit₁ hs₁=>?_)))))
 have all:List.take its.size (List.drop 0 its.toList)=its.toList:=by
  rw[List.drop_zero]
  exact dI (by simp)
 rw[all,if_neg (by simp)]
 have hl₁:h₁.IsList l its:=(hl.push _).extBut hs₁.extBut hne
 refine dM (dP (wpAny_pyNext_list_end hh hit₁ hl₁ (by simp) fun h₂ he₂=>?_))
 simp only[Option.isSome_none,Bool.false_eq_true,if_false]
 exact dY (hQ h₂ fun b o hb e=>he₂ b o hb (hs₁.extBut b o hb (a8 _ e)))
end
noncomputable def aG7(K:FG)(n:Nat)(t:TGs):TG:=fun v σ H Q=>∃a xs,v=.ref a/\SqL K H a xs/\xs.length=n/\t xs σ H Q
section
variable{X:Cx}{pos:Pos}
theorem aDC{es:List Expr}{k n:Nat}{t:TGs}(h:Gts X es t)(hc:X.calm=true:=by rfl)(hn:(assignEach es X.env).length=n:=by rfl)(hst:(assignEach es X.env).findIdx? (·.1)=none:=by rfl):Gt X (.Tuple es k pos) (aG7 X.K n t):=by
 refine⟨fun pins s σ H v u Q I r hw=>?_⟩
 obtain⟨a,xs,e1,hq,hl,hw⟩:=hw
 subst e1
 cases r
 obtain⟨its,rv,pl,hz⟩:=I.list hq
 rw[assign_Tuple]
 refine dM (wpAny_standAt ?_)
 unfold unpack
 have e2:(assignEach es X.env).length=its.toArray.size:=by rw[hn,←hl,rv.length,bG]
 rw[e2,hst]
 refine dM (dP (aAE (I.ok.hd hc) pl.isList fun h' hx=>?_))
 have I1:Inv X pins σ H {s with heap:=h'}:=I.kept (t':=s.toks) fun b o e=>hx b o (aY (aV e)) e
 exact h.h pins _ σ H xs _ Q I1 (by simpa using rv) hw
theorem ao6{o e:Expr}{to te:TE}{apos cpos:Pos}(ho:E X o to)(he:E X e te)(hbase:attributeBase o "append" X.env (eval o X.env)=eval o X.env:=by rfl)
  (hfew:((backTo cpos (starEach [e] X.env)).all (fun x=> !x.1)&&(backToKw cpos (keywordEach [] X.env)).all (fun x=>x.1.isSome)&&decide (([e]:List Expr).length+([]:List Keyword).length+(if ([]:List Keyword).isEmpty then 0 else 1)<30))=true:=by rfl)
  (hline:(apos.endLine==cpos.line)=true:=by rfl) (hs:starEach [e] X.env=(false,eval e X.env)::starEach [] X.env:=by rfl) (hplain:(backTo cpos (starEach [] X.env)).any (·.1)=false:=by rfl):
  E X (.Call (.Attribute o "append" apos) [e] [] cpos) (tBM X.K "list" atY to (aeF te alG)):=
 ⟨aqD PySem.F.plainAttrs_list PySem.F.slot_list_append PySem.F.type_list_append ag6 ho.h (acT he.h aeQ hs) hbase hfew hline hs hplain⟩
end
section
variable{js:List Nat}{σ:St}{tt:TT}{te:TE}{Q:VK}{H1:Hp}
end
noncomputable def Digs(ds ss:List Int):Prop:=Paired (fun d z:Int=>0<=d/\d<z) ds ss
theorem Digs.snoc{ds ss:List Int}{d z:Int}(h:Digs ds ss)(h0:0<=d)(h1:d<z):Digs (ds++[d]) (ss++[z]):=Paired.snoc h ⟨h0,h1⟩
theorem Digs.len{ds ss:List Int}(h:Digs ds ss):ds.length=ss.length:=Paired.length h
theorem Digs.four{ds:List Int}{a b c d:Int}(h:Digs ds [a,b,c,d]):∃x y z w:Int,ds=[x,y,z,w]/\(0<=x/\x<a)/\(0<=y/\y<b)/\(0<=z/\z<c)/\0<=w/\w<d:=by
 cases h with
 |cons h1 r=>cases r with | cons h2 r=>cases r with | cons h3 r=>cases r with | cons h4 r=>cases r;exact⟨_,_,_,_,rfl,h1,h2,h3,h4⟩
theorem abT{H H2:Hp}{p:Addr}{o:HO}(hn:H p=none)(s:Same H H2):Same H (upd H2 p o):=fun b u h=>by
 rw[aaF (aaI h hn)]
 exact s b u h
theorem aKX{a m b:Int}(h0:0<m)(h1:m<=18446744073709551616):CMul (a%m) b:=.inl ⟨Int.lt_of_lt_of_le (by decide) (bR a (Int.ne_of_gt h0)),Int.lt_of_lt_of_le (bZ a h0) h1⟩
theorem aHS:(10:Int)^(18:Int).toNat=1000000000000000000:=by decide +kernel
theorem axZ:(10:Int)^(58:Int).toNat=10000000000000000000000000000000000000000000000000000000000:=by decide +kernel
structure FnM(K:FG)(C:Addr)(m qual:Str)(st:Stmt)(ps:List Str):Prop where
 ex:∃(f:Addr) (fd:FuncData),Fun K m qual st f fd/\Binds K fd ps []/\Meth K C m f
structure DfM(P:Program)(w:World)(K:FG)(mg:Str->Option Value)(base:Heap)(C:Addr)(m:Str)(k:Nat)(ps:List Str)(sp:Sp):Prop where
 ex:∃(f:Addr) (fd:FuncData),FnOk P w K mg base CX0 k f fd ps sp/\Binds K fd ps []/\Meth K C m f
structure Cd(K:FG)(mg:Str->Option Value)(x:Str)(C:Addr):Prop where
 at_:mg x=some (.ref C)
 cl:Cls K C
 makes:PySem.W.makesIn K C=true
 kp:PySem.W.keepIn K (.ref C)=true
section
variable{P:Program}{w:World}{K:FG}{mg:Str->Option Value}{base:Heap}{m qual:Str}{st:Stmt}{ps N:List Str}{k:Nat}{sp:Sp}{C:Addr}
theorem FnM.dfs(F:FnM K C m qual st ps)(S':FnScope N ps (aaC st))(len:∀vs H Q E,sp vs H Q E->vs.length=ps.length)
  (hbody:∀(f:Addr) (cdv:Value) (A:Around) (outer:List Env) (s:Shared) (H:Hp) (vs:List V) (Q:VK) (E:XK),Room k (A.deeper (envOfC qual (aaC st) s.heap.objs.size f cdv))->sp vs H Q E->
   ∃t,Ss (ai4 CX0 P w K mg base N qual (aaC st) f cdv A outer s H E).nox (aaS st) t/\t {nx:=fun _ H'=>Q .non H',rt:=Q} (start N vs) H):DfM P w K mg base C m (k+1) ps sp:=by
 obtain⟨f,fd,F1,hb,hm⟩:=F.ex
 refine⟨⟨f,fd,F1.ok S' len fun cdv A outer s H vs Q E hr h=>?_,hb,hm⟩⟩
 obtain⟨t,h1,h2⟩:=hbody f cdv A outer s H vs Q E hr h
 exact⟨t,h1.h,h2⟩
theorem abC{f:Addr}{oc:Value}{od an:Option Addr}{osl:Array (Option Value)}{kV doc pm cdv ct:Value}
  (a:PySem.W.findIn K (.ref C) m=some (some (.ref f))) (i:PySem.W.isFn K (.ref f)=true) (l:K.lookup f=some ⟨oc,od,.func (PySem.W.fnOf m qual (aa0 st) (aaS st) (aaC st) .none kV doc pm an cdv ct),osl⟩)
  (c:PySem.W.codeIn K cdv qual=true) (k:PySem.W.keepIn K (.ref f)=true)
  (hb:∀(kV doc pm:Value) (an:Option Addr) (cdv ct:Value) (us:List Value),us.length=ps.length->bindArgs (PySem.W.fnOf m qual (aa0 st) (aaS st) (aaC st) .none kV doc pm an cdv ct) ⟨us,[]⟩=pure (ps.zip us)):FnM K C m qual st ps:=by
 have F:=anI (st:=st) l c k
 exact⟨⟨f,_,F,F.binds (ps:=ps) hb,⟨a,i,k⟩⟩⟩
end
section
variable{X:Cx}{x m:Str}{C:Addr}{k k':Nat}{ps:List Str}{sp:Sp}{e o value:Expr}{es:List Expr}{ta tv:TE}{t:TA}{p pos apos pos':Pos}{f:Str}
theorem eMk(c:Cd X.K X.mg x C)(D:DfM X.prog X.w X.K X.mg X.base C "__init__" k ps sp)(hr:Room k' X.A)(ha:As X (e::es) t)(hk:k+1<=k':=by decide)(hg:Gl X x:=by rfl)(hdb:(x==("__debug__":Str))=false:=by decide)
  (he:starEach (e::es) X.env=(false,eval e X.env)::starEach es X.env:=by rfl) (hpl:(backTo pos (starEach es X.env)).any (·.1)=false:=by rfl):E X (.Call (.Name x p) (e::es) [] pos) (auF C sp [] E0 t):=by
 obtain⟨f,fd,F,hb,hm⟩:=D.ex
 exact⟨azZ ⟨c.makes,hm.at_,hm.fn,c.kp⟩ F (hr.mono hk) hg c.at_ hb .nil aq4 ha.h hdb he hpl⟩
theorem eMe{pl:Sem Bool}(c:Cls X.K C)(D:DfM X.prog X.w X.K X.mg X.base C m k ps sp)(hr:Room k' X.A)(ho:E X o ta)(ha:As X (e::es) t)(hk:k<=k':=by decide)
  (hst:starEach (e::es) X.env=(false,eval e X.env)::starEach es X.env:=by rfl) (hpl:(backTo pos (starEach es X.env)).any (·.1)=false:=by rfl)
  (ht:eval (.Call (.Attribute o m apos) (e::es) [] pos) X.env=(do
   let ov ←eval o X.env
   standAt apos.atName
   let (f,first) ←holding [ov] (getMethod ov m pl)
   callWith pos f first (backTo pos (starEach (e::es) X.env)) (backToKw pos (keywordEach [] X.env))):=by rfl):E X (.Call (.Attribute o m apos) (e::es) [] pos) (ayM C m sp [] E0 ta t):=by
 obtain⟨f,fd,F,hb,hm⟩:=D.ex
 exact⟨azC ho.h c hm F (hr.mono hk) hb .nil aq4 ha.h hst hpl ht⟩
theorem eFl(he:E X e ta)(hb:attributeBase e f X.env (eval e X.env)=eval e X.env:=by rfl):E X (.Attribute e f pos) (aDR X.K ta f):=⟨aB3 he.h hb⟩
theorem sFl(ha:E X o ta)(hv:E X value tv)(hs:swapsWith value (some (.Attribute o f pos')) pos.line X.env=pure false:=by rfl):S X (.Assign [.Attribute o f pos'] value pos) (aIN X.K ta tv f):=⟨aC7 ha.h hv.h hs⟩
noncomputable def tMkN(C:Addr):TE:=fun _ H Q=>∀x dx,H x=none->H dx=none->dx≠x->Q (.ref x) (upd (upd H dx (.own x)) x (.ins C dx []))
theorem eMkN(c:Cd X.K X.mg x C)(hi:PySem.W.findIn X.K (.ref C) "__init__"=some (some (.builtin "object.__init__")))(hg:Gl X x:=by rfl)(hdb:(x==("__debug__":Str))=false:=by decide):E X (.Call (.Name x p) [] [] pos) (tMkN C):=by
 refine⟨fun pins s σ H Q I h=>?_⟩
 refine dX (aeZ I hg c.at_ ?_ hdb)
 refine PySem.W.callWith_K0 I.kIn c.kp (wpAny_call ?_)
 have hq:=h (s.heap.objs.size+1) s.heap.objs.size (I.hok.fresh (Nat.le_succ _)) (I.hok.fresh (aS _)) (aY (Nat.lt_succ_self _))
 have I2:=Inv.made (C:=C) I
 have e2:((s.heap.push PySem.W.emptyDict).push (PySem.W.instObj C s.heap.objs.size)).get? (s.heap.objs.size+1)=some (PySem.W.instObj C s.heap.objs.size):=by
  have:=bK (s.heap.push PySem.W.emptyDict) (o:=PySem.W.instObj C s.heap.objs.size) rfl
  rwa [Heap.size_push] at this
 have Y:=PySem.W.makes_of (M:=model X.prog X.w) I.kIn c.makes
 refine avR I.kIn c.makes hi (fun self=>PySem.W.Looks.of_pure (PySem.W.oi_bind self)) ?_
 have t1:PySem.W.Looks (model X.prog X.w) ((s.heap.push PySem.W.emptyDict).push (PySem.W.instObj C s.heap.objs.size)) (typeOf (.ref (s.heap.objs.size+1))) (.ref C):=(PySem.W.Looks.ld e2).andThen .now
 have t2:PySem.W.Looks (model X.prog X.w) ((s.heap.push PySem.W.emptyDict).push (PySem.W.instObj C s.heap.objs.size)) (isInstance (.ref (s.heap.objs.size+1)) (.type "object")) true:=t1.andThen (Y.top.keeps fun b o q=>a8 _ (a8 _ q))
 refine codeAny_call_builtin PySem.W.oi_plain PySem.W.entry_oi (@PySem.W.check_slot (model X.prog X.w) _ _ _ "object.__init__" "object" "__init__" (.ref (s.heap.objs.size+1)) [] [] _ PySem.W.oi_kind PySem.W.oi_split t2 (PySem.W.oi_args (.ref (s.heap.objs.size+1))) ?_)
 rw[PySem.W.oi_run]
 exact dY (And.intro rfl ⟨V.ref (s.heap.objs.size+1),_,I2,rfl,hq⟩)
end
structure Po(X:Cx)(o:Option Expr)(t:TO):Prop where
 h:PO X o t
structure Sls(X:Cx)(r:V->Option Int->Option Int->Hp->VK->Prop):Prop where
 h:SlR X r
section
variable{X:Cx}{e:Expr}{te:TE}{lo hi:Option Expr}{tl th:TO}{pos p2:Pos}
theorem poN:Po X none auA:=⟨aAJ⟩
theorem poS(h:E X e te):Po X (some e) (aA6 te):=⟨aAP h.h⟩
theorem slL:Sls X (aLI X.K):=⟨az0⟩
theorem eSl{r:V->Option Int->Option Int->Hp->VK->Prop}(hr:Sls X r)(he:E X e te)(hl:Po X lo tl)(hu:Po X hi th):E X (.Subscript e (.Slice lo hi none p2) pos) (tSl r te tl th):=⟨ax1 hr.h he.h hl.h hu.h⟩
end
noncomputable def aFW(xs:List Int)(lo hi:Option Int):List Int:=(xs.drop (HT.sIx xs.length 0 lo)).take (HT.sIx xs.length xs.length hi-HT.sIx xs.length 0 lo)
structure FunD(K:FG)(x qual:Str)(st:Stmt)(f:Addr)(fd:FuncData):Prop where
 ex:∃(oc:Value) (od:Option Addr) (dV kV doc pm:Value) (an:Option Addr) (cdv ct:Value) (osl:Array (Option Value)),
  fd=PySem.W.fnOf x qual (aa0 st) (aaS st) (aaC st) dV kV doc pm an cdv ct/\K.lookup f=some ⟨oc,od,.func fd,osl⟩/\PySem.W.codeIn K cdv qual=true
 kp:PySem.W.keepIn K (.ref f)=true
structure FnMD(K:FG)(C:Addr)(m qual:Str)(st:Stmt)(ps:List Str)(dvs:List V):Prop where
 ex:∃(f:Addr) (fd:FuncData) (ds:List Value),FunD K m qual st f fd/\Binds K fd ps []/\Vals dvs ds/\Binds K fd ps ds/\Meth K C m f
structure DfMD(P:Program)(w:World)(K:FG)(mg:Str->Option Value)(base:Heap)(C:Addr)(m:Str)(k:Nat)(ps:List Str)(sp:Sp)(dvs:List V):Prop where
 ex:∃(f:Addr) (fd:FuncData) (ds:List Value),FnOk P w K mg base CX0 k f fd ps sp/\Binds K fd ps []/\Vals dvs ds/\Binds K fd ps ds/\Meth K C m f
section
variable{P:Program}{w:World}{K:FG}{mg:Str->Option Value}{base:Heap}{m qual:Str}{st:Stmt}{ps N:List Str}{k:Nat}{sp:Sp}{C:Addr}{dvs:List V}
theorem DfMD.dfm(D:DfMD P w K mg base C m k ps sp dvs):DfM P w K mg base C m k ps sp:=by
 obtain⟨f,fd,ds,a,b,_,_,e⟩:=D.ex
 exact⟨⟨f,fd,a,b,e⟩⟩
theorem FnMD.dfs(F:FnMD K C m qual st ps dvs)(S':FnScope N ps (aaC st))(len:∀vs H Q E,sp vs H Q E->vs.length=ps.length)
  (hbody:∀(f:Addr) (cdv:Value) (A:Around) (outer:List Env) (s:Shared) (H:Hp) (vs:List V) (Q:VK) (E:XK),Room k (A.deeper (envOfC qual (aaC st) s.heap.objs.size f cdv))->sp vs H Q E->
   ∃t,Ss (ai4 CX0 P w K mg base N qual (aaC st) f cdv A outer s H E).nox (aaS st) t/\t {nx:=fun _ H'=>Q .non H',rt:=Q} (start N vs) H):DfMD P w K mg base C m (k+1) ps sp dvs:=by
 obtain⟨f,fd,ds,F1,hb,hv,hbd,hm⟩:=F.ex
 refine⟨⟨f,fd,ds,?_,hb,hv,hbd,hm⟩⟩
 obtain⟨oc,od,dV,kV,doc,pm,an,cdv,ct,osl,rfl,lk,hcd⟩:=F1.ex
 refine aw9 lk hcd S' len fun A outer s H vs Q E hr hsp=>?_
 obtain⟨t,h,q⟩:=hbody f cdv A outer s H vs Q E hr hsp
 exact⟨t,h.h.nox,q⟩
theorem aAA{f:Addr}{oc:Value}{od an:Option Addr}{osl:Array (Option Value)}{dV kV doc pm cdv ct:Value}{ds:List Value}
  (a:PySem.W.findIn K (.ref C) m=some (some (.ref f))) (i:PySem.W.isFn K (.ref f)=true) (l:K.lookup f=some ⟨oc,od,.func (PySem.W.fnOf m qual (aa0 st) (aaS st) (aaC st) dV kV doc pm an cdv ct),osl⟩)
  (c:PySem.W.codeIn K cdv qual=true) (k:PySem.W.keepIn K (.ref f)=true)
  (hb:Binds K (PySem.W.fnOf m qual (aa0 st) (aaS st) (aaC st) dV kV doc pm an cdv ct) ps []) (hv:Vals dvs ds) (hd:Binds K (PySem.W.fnOf m qual (aa0 st) (aaS st) (aaC st) dV kV doc pm an cdv ct) ps ds):FnMD K C m qual st ps dvs:=
 ⟨⟨f,_,ds,⟨⟨oc,od,dV,kV,doc,pm,an,cdv,ct,osl,rfl,l,c⟩,k⟩,hb,hv,hd,⟨a,i,k⟩⟩⟩
end
section
variable{X:Cx}{x:Str}{C:Addr}{k k':Nat}{ps:List Str}{sp:Sp}{p pos:Pos}{dvs:List V}
theorem eMkD(c:Cd X.K X.mg x C)(D:DfMD X.prog X.w X.K X.mg X.base C "__init__" k ps sp dvs)(hr:Room k' X.A)(hk:k+1<=k':=by decide)(hg:Gl X x:=by rfl)(hdb:(x==("__debug__":Str))=false:=by decide):
  E X (.Call (.Name x p) [] [] pos) (auF C sp dvs E0 alG):=by
 obtain⟨f,fd,ds,F,_,hv,hb,hm⟩:=D.ex
 exact⟨aw8 ⟨c.makes,hm.at_,hm.fn,c.kp⟩ F (hr.mono hk) hg c.at_ hb hv aq4 hdb⟩
end
theorem akQ{H:Hp}{xo dx:Addr}{a b:HO}(nx:H xo=none)(ndx:H dx=none):Same H (upd (upd H dx a) xo b):=fun z u hb=>by
 rw[aaF (aaI hb nx),aaF (aaI hb ndx)]
 exact hb
theorem acK{H:Hp}{xo dx:Addr}{a b c:HO}(nx:H xo=none)(ndx:H dx=none):Same H (upd (upd (upd H dx a) xo b) xo c):=fun z u hb=>by
 rw[aaF (aaI hb nx)]
 exact akQ nx ndx z u hb
theorem axP{H:Hp}{xo dx:Addr}{a b c d:HO}(nx:H xo=none)(ndx:H dx=none):Same H (upd (upd (upd (upd H dx a) xo b) xo c) xo d):=fun z u hb=>by
 rw[aaF (aaI hb nx)]
 exact acK nx ndx z u hb
end L2
namespace L2
open PySem PyProof.Rows
noncomputable def aFU(p:Nat->Bool):Nat->Nat
 |0=>0
 |n+1=>aFU p n+(if p n=true then 2^n else 0)
@[irreducible] noncomputable def cnt(p:Nat->Bool)(n:Nat):Nat:=aFU p n
theorem alA(p:Nat->Bool):cnt p 0=0:=by rw[cnt];rfl
theorem alH(p:Nat->Bool)(n:Nat):cnt p (n+1)=cnt p n+(if p n=true then 2^n else 0):=by rw[cnt,cnt];rfl
theorem ar0(p:Nat->Bool):∀n,cnt p n<2^n
 |0=>by rw[alA];decide
 |n+1=>by
  have h:=ar0 p n
  rw[alH,Nat.pow_succ]
  split<;>omega
theorem at7(p:Nat->Bool):∀n i,(cnt p n).testBit i=(decide (i<n)&&p i)
 |0,i=>by rw[alA];simp
 |n+1,i=>by
  have h:=ar0 p n
  have ih:=at7 p n i
  rw[alH]
  by_cases hp:p n=true
  ·rw[if_pos hp,Nat.add_comm]
   rcases Nat.lt_trichotomy i n with hi | hi | hi
   ·rw[Nat.testBit_two_pow_add_gt hi,ih]
    simp[hi,Nat.lt_succ_of_lt hi]
   ·subst hi
    rw[Nat.testBit_two_pow_add_eq,ih]
    simp[hp]
   ·have h2:2^n+cnt p n<2^i:=aZ (by rw[Nat.pow_succ];omega) (Nat.pow_le_pow_right (by decide) hi)
    rw[Nat.testBit_lt_two_pow h2]
    have:¬i<n+1:=by omega
    simp[this]
  ·rw[if_neg hp,Nat.add_zero,ih]
   by_cases e:i=n
   ·subst e
    simp[hp]
   ·have:(i<n+1)↔(i<n):=by omega
    simp[this]
noncomputable def tb(m:Int)(i:Nat):Bool:=m.toNat.testBit i
theorem aaY(k:Nat):((2^k:Nat):Int)=(2:Int)^k:=by rw[Int.natCast_pow];rfl
theorem aaO(k:Nat):(0:Int)<2^k:=by rw[←aaY];exact Int.natCast_pos.mpr (Nat.two_pow_pos k)
theorem auT{m:Int}(h:0<=m)(k:Nat):m / 2^k=((m.toNat >>> k:Nat):Int):=by
 obtain⟨n,rfl⟩:=cG h
 rw[bQ,Nat.shiftRight_eq_div_pow,←aaY,Int.natCast_ediv]
theorem auC(a b:Nat):Builtin.bitAnd (a:Int) (b:Int)=((a&&& b:Nat):Int):=bitAnd_pp (cV a) (cV b)
theorem aoK(a b:Nat):Builtin.bitOr (a:Int) (b:Int)=((a||| b:Nat):Int):=by
 rw[bitOr_and,auC]
 have:=nat_or_add_and a b
 omega
theorem ajL{m:Int}(h:0<=m)(k:Nat):(Builtin.bitAnd (m / 2^k) 1=1)↔tb m k=true:=by
 rw[auT h,show (1:Int)=((1:Nat):Int) from rfl,auC]
 unfold tb
 rw[Nat.testBit_eq_decide_div_mod_eq,Nat.shiftRight_eq_div_pow]
 have:m.toNat / 2^k&&& 1=m.toNat / 2^k%2:=Nat.and_two_pow_sub_one_eq_mod _ 1
 rw[this]
 simp only[dU]
 omega
theorem aj0{a b:Int}(ha:0<=a)(hb:0<=b):0<=Builtin.bitAnd a b:=by rw[bitAnd_pp ha hb];exact cV _
theorem alC{a b:Int}(ha:0<=a)(hb:0<=b):0<=Builtin.bitOr a b:=by
 obtain⟨x,rfl⟩:=cG ha
 obtain⟨y,rfl⟩:=cG hb
 rw[aoK]
 exact cV _
theorem afZ{a b:Int}(ha:0<=a)(hb:0<=b)(i:Nat):tb (Builtin.bitAnd a b) i=(tb a i&&tb b i):=by
 unfold tb
 rw[bitAnd_pp ha hb,bQ,Nat.testBit_and]
theorem apH{a b:Int}(ha:0<=a)(hb:0<=b)(i:Nat):tb (Builtin.bitOr a b) i=(tb a i||tb b i):=by
 obtain⟨x,rfl⟩:=cG ha
 obtain⟨y,rfl⟩:=cG hb
 unfold tb
 rw[aoK,bQ,Nat.testBit_or,bQ,bQ]
theorem arT(k i:Nat):tb (2^k) i=decide (k=i):=by
 unfold tb
 rw[←aaY,bQ,Nat.testBit_two_pow]
theorem aa4(i:Nat):tb 0 i=false:=by unfold tb;simp
theorem acE{a b:Int}(ha:0<=a)(hb:0<=b)(h:∀i,tb a i=tb b i):a=b:=by
 have:a.toNat=b.toNat:=Nat.eq_of_testBit_eq h
 omega
theorem an6{m:Int}(h:0<=m)(k i:Nat):tb (m*2^k) i=(decide (k<=i)&&tb m (i-k)):=by
 obtain⟨x,rfl⟩:=cG h
 unfold tb
 rw[←aaY,←Int.natCast_mul,bQ,bQ,←Nat.shiftLeft_eq,Nat.testBit_shiftLeft]
theorem adG{m:Int}(h:0<=m)(k i:Nat):tb (m / 2^k) i=tb m (k+i):=by
 rw[auT h]
 unfold tb
 rw[bQ,Nat.testBit_shiftRight]
theorem acP{m:Int}{n i:Nat}(h:m<2^n)(hi:n<=i):tb m i=false:=by
 unfold tb
 refine Nat.testBit_lt_two_pow (aZ ?_ (Nat.pow_le_pow_right (by decide) hi))
 by_cases h0:0<=m
 ·have:=aaY n
  omega
 ·have:m.toNat=0:=by omega
  rw[this]
  exact Nat.two_pow_pos n
@[irreducible] noncomputable def mk_(p:Nat->Bool)(n:Nat):Int:=(cnt p n:Nat)
theorem amI(p:Nat->Bool)(n:Nat):mk_ p n=(cnt p n:Nat):=by rw[mk_]
theorem atZ(p:Nat->Bool)(n:Nat):0<=mk_ p n:=by rw[amI];exact cV _
theorem azN(p:Nat->Bool):mk_ p 0=0:=by rw[amI,alA];rfl
theorem atU(p:Nat->Bool)(n i:Nat):tb (mk_ p n) i=(decide (i<n)&&p i):=by
 unfold tb
 rw[amI,bQ,at7]
theorem auE(p:Nat->Bool)(n:Nat):mk_ p (n+1)=mk_ p n+(if p n=true then 2^n else 0):=by
 rw[amI,amI,alH,Int.natCast_add]
 split
 ·rw[aaY]
 ·rfl
theorem awX(p:Nat->Bool)(n:Nat):mk_ p n<2^n:=by
 have:=ar0 p n
 have e:=aaY n
 rw[amI]
 omega
theorem ajM(n i:Nat):tb (2^n-1) i=decide (i<n):=by
 have h:=aaY n
 have:((2:Int)^n-1).toNat=2^n-1:=by
  have:=Nat.two_pow_pos n
  omega
 unfold tb
 rw[this,Nat.testBit_two_pow_sub_one]
noncomputable def aE8(p:Nat->Bool)(lo:Int):Nat->List Int
 |0=>[]
 |n+1=>aE8 p lo n++(if p n=true then [lo+(n:Int)] else [])
@[irreducible] noncomputable def flt(p:Nat->Bool)(lo:Int)(n:Nat):List Int:=aE8 p lo n
theorem ak9(p:Nat->Bool)(lo:Int):flt p lo 0=[]:=by rw[flt];rfl
theorem aAO{p:Nat->Bool}{lo:Int}{α:Type}{f:Int->α}:[]=(flt p lo 0).map f:=by rw[ak9];rfl
theorem arB(p:Nat->Bool)(lo:Int)(n:Nat):flt p lo (n+1)=flt p lo n++(if p n=true then [lo+(n:Int)] else []):=by rw[flt,flt];rfl
theorem an8{p:Nat->Bool}{lo:Int}{n:Nat}(h:p n=true):flt p lo (n+1)=flt p lo n++[lo+(n:Int)]:=by
 rw[arB,if_pos h]
theorem an7{p:Nat->Bool}{lo:Int}{n:Nat}(h:p n=false):flt p lo (n+1)=flt p lo n:=by
 rw[arB,h,if_neg a9,cI]
theorem flt_mem{p:Nat->Bool}{lo z:Int}:∀{n:Nat},z∈flt p lo n↔∃i,i<n/\p i=true/\z=lo+(i:Int)
 |0=>by rw[ak9];exact⟨fun h=>(nomatch h),fun ⟨i,h,_⟩=>absurd h (Nat.not_lt_zero i)⟩
 |n+1=>by
  by_cases c:p n=true
  ·rw[an8 c,bM,flt_mem,bL]
   refine⟨fun h=>?_,fun ⟨i,h1,h2,h3⟩=>?_⟩
   ·rcases h with ⟨i,h1,h2,h3⟩ | h
    ·exact⟨i,by omega,h2,h3⟩
    ·exact⟨n,by omega,c,h⟩
   ·by_cases e:i=n
    ·subst e;exact .inr h3
    ·exact .inl ⟨i,by omega,h2,h3⟩
  ·rw[an7 (by simpa using c),flt_mem]
   refine⟨fun ⟨i,h1,h2,h3⟩=>⟨i,by omega,h2,h3⟩,fun ⟨i,h1,h2,h3⟩=>⟨i,?_,h2,h3⟩⟩
   have:i≠n:=fun e=>c (e▸h2)
   omega
theorem aCM{p:Nat->Bool}{lo:Int}{n k:Nat}(h:∀i,n<=i->p i=false)(hk:n<=k):flt p lo k=flt p lo n:=by
 obtain⟨d,rfl⟩:=Nat.exists_eq_add_of_le hk
 clear hk
 induction d with
 |zero=>rfl
 |succ d ih=>rw[show n+(d+1)=(n+d)+1 from rfl,an7 (h _ (by omega)),ih]
noncomputable def abA(zs:List Int):Int:=zs.foldl (fun a z=>Builtin.bitOr a (1*2^z.toNat)) 0
theorem asJ(zs:List Int)(z:Int):abA (zs++[z])=Builtin.bitOr (abA zs) (1*2^z.toNat):=by unfold abA;rw[List.foldl_append];rfl
theorem anL:∀(zs:List Int) (a:Int),0<=a->0<=zs.foldl (fun a z=>Builtin.bitOr a (1*2^z.toNat)) a/\∀i,tb (zs.foldl (fun a z=>Builtin.bitOr a (1*2^z.toNat)) a) i=(tb a i||zs.any fun z=>decide (z.toNat=i))
 |[],a,h=>⟨h,fun i=>by simp⟩
 |z::zs,a,h=>by
  have e:(1*2^z.toNat:Int)=2^z.toNat:=by omega
  have p:=bJ (aaO z.toNat)
  obtain⟨h1,h2⟩:=anL zs (Builtin.bitOr a (1*2^z.toNat)) (by rw[e];exact alC h p)
  refine⟨h1,fun i=>?_⟩
  show tb (zs.foldl _ (Builtin.bitOr a (1*2^z.toNat))) i=_
  rw[h2 i,e,apH h p,arT,cH,Bool.or_assoc]
theorem ad8(zs:List Int):0<=abA zs:=(anL zs 0 (aX 0)).1
theorem agH(zs:List Int)(i:Nat):tb (abA zs) i=zs.any fun z=>decide (z.toNat=i):=by
 have h:=(anL zs 0 (aX 0)).2 i
 rw[aa4,Bool.false_or] at h
 exact h
theorem atD{m:Int}(h:0<=m):m<2^Builtin.Int.intBits m:=by
 unfold Builtin.Int.intBits
 split
 ·rename_i c
  have:m=0:=by simpa using c
  rw[this]
  decide
 ·have:=Nat.lt_log2_self (n:=m.natAbs)
  have e:=aaY (m.natAbs.log2+1)
  omega
theorem ajP{m:Int}{n:Nat}(h:0<=m)(hn:m<2^n):Builtin.Int.intBits m<=n:=by
 unfold Builtin.Int.intBits
 split
 ·exact bO _
 ·rename_i c
  have h0:m≠0:=by simpa using c
  have e:=aaY n
  have:m.natAbs.log2<n:=(Nat.log2_lt (by omega)).mpr (by omega)
  omega
noncomputable def ap9(m:Int):List Int:=flt (tb m) 0 (Builtin.Int.intBits m)
theorem ajK{m:Int}{n:Nat}(h:0<=m)(hn:m<2^n):ap9 m=flt (tb m) 0 n:=
 (aCM (fun i hi=>acP (atD h) hi) (ajP h hn)).symm
theorem ay4{m:Int}(h:0<=m)(k:Nat):decide (Builtin.bitAnd (m / 2^k) 1=1)=tb m k:=by
 by_cases c:tb m k=true
 ·rw[c];exact dR ((ajL h _).mpr c)
 ·have c':tb m k=false:=by simpa using c
  rw[c'];exact dW fun q=>c ((ajL h _).mp q)
end L2
namespace L2
open PySem PyProof.Rows
theorem aNJ{a b:Int}{n:Nat}(ha:0<=a)(hb:0<=b)(h1:a<2^n)(h2:b<2^n):Builtin.bitOr a b<2^n:=by
 obtain⟨x,rfl⟩:=cG ha
 obtain⟨y,rfl⟩:=cG hb
 have e:=aaY n
 have:x||| y<2^n:=Nat.or_lt_two_pow (by omega) (by omega)
 rw[aoK]
 omega
section
variable{X:Cx}{tg:Expr}
theorem atR{a b c:Int}(hc:0<c):0<=Builtin.Range.rangeSize a b c:=by
 unfold Builtin.Range.rangeSize
 rw[if_pos hc]
 split
 ·have:0<=(b-a-1) / c:=c7 (by omega) (by omega)
  omega
 ·exact aX 0
end
noncomputable def ayC(a:Addr)(lo hi st:Int):HO:=.ext fun h=>∃t u v,h.get? a=some {cls:=.type "range",data:=.fields #[.int lo t,.int hi u,.int st v]}
section
variable{X:Cx}
theorem arI{pins:List (Addr×Obj)}{σ:St}{H:Hp}{s:Shared}{Q:VK}{lo hi st:Int}{t u v:Tok}{tk:Nat}(I:Inv X pins σ H s)(q:∀p,H p=none->Q (.ref p) (upd H p (ayC p lo hi st))):
  EP X pins σ Q (.ref s.heap.objs.size) {s with heap:=s.heap.push {cls:=.type "range",data:=.fields #[.int lo t,.int hi u,.int st v]},toks:=tk}:=by
 refine⟨.ref s.heap.objs.size,upd H s.heap.objs.size (ayC s.heap.objs.size lo hi st),I.laid (t':=tk) (fun b u e=>a8 _ e) (aS _) ?_,rfl,q _ (I.hok.fresh (aS _))⟩
 have e:=bK s.heap (o:={cls:=.type "range",data:=.fields #[.int lo t,.int hi u,.int st v]}) rfl
 exact⟨⟨t,u,v,e⟩,⟨_,e⟩,fun h1 h2 ⟨t,u,v,z⟩ k=>⟨t,u,v,k _ z⟩⟩
theorem aHE:Cl1 X (.type "range") (fun xs H Q=>∃i j,xs=[.int i,.int j]/\∀p,H p=none->Q (.ref p) (upd H p (ayC p i j 1))):=by
 refine⟨fun pins s σ H xs us Q I r h=>?_⟩
 obtain⟨i,j,rfl,q⟩:=h
 obtain⟨u,u',rfl,⟨t,rfl⟩,⟨t',rfl⟩⟩:=amH r
 exact call_range_2 (arI I q)
theorem azY:Cl1 X (.type "range") (fun xs H Q=>∃i j c,xs=[.int i,.int j,.int c]/\(0<c/\c<1073741824)/\∀p,H p=none->Q (.ref p) (upd H p (ayC p i j c))):=by
 refine⟨fun pins s σ H xs us Q I r h=>?_⟩
 obtain⟨i,j,c,rfl,⟨c0,c1⟩,q⟩:=h
 cases r with
 |cons r rr=>
  cases rr with
  |cons r' rr=>
   cases rr with
   |cons r'' rr=>
    cases rr
    obtain⟨t,rfl⟩:=r
    obtain⟨t',rfl⟩:=r'
    obtain⟨t'',rfl⟩:=r''
    exact call_range_3 (Int.ne_of_gt c0) (arI I q) (.inl (PyProof.noPylong_small (by omega)))
theorem asF{lo st:Int}:∀{n:Nat} {acc:Array Value},ItemsOf (fun i v=>∃t,v=.int (lo+i*st) t) acc n->Vals ((List.range n).map fun i:Nat=>V.int (lo+i*st)) acc.toList:=by
 intro n acc h
 obtain⟨hz,hi⟩:=h
 have key:∀(m:Nat),m<=n->Vals ((List.range m).map fun i:Nat=>V.int (lo+i*st)) (acc.toList.take m):=by
  intro m
  induction m with
  |zero=>intro _;exact .nil
  |succ m ih=>
   intro hm
   have hlt:m<acc.toList.length:=by rw[Array.length_toList];omega
   obtain⟨t,e⟩:=hi m acc.toList[m] (by rw[←Array.getElem?_toList];exact cJ hlt)
   rw[List.range_succ,bC,cF,cJ hlt]
   exact (ih (by omega)).append (.cons ⟨t,e⟩ .nil)
 have:=key n (aS _)
 rwa [dI (by rw[Array.length_toList];omega)] at this
theorem cLR(hc:X.calm=true:=by rfl):Cl1 X (.type "list") (fun xs H Q=>∃(p:Addr) (lo hi st:Int) (n:Nat),xs=[.ref p]/\H p=some (ayC p lo hi st)/\Builtin.Range.small lo hi st=true/\Builtin.Range.rangeSize lo hi st=(n:Int)/\n<=100000/\
  ∀l,H l=none->Q (.ref l) (upd H l (.lst ((List.range n).map fun i:Nat=>V.int (lo+i*st))))):=by
 refine⟨fun pins s σ H xs us Q I r h=>?_⟩
 obtain⟨p,lo,hi,st,n,rfl,hp,hs,hn,hl,q⟩:=h
 obtain⟨u,rfl,rx⟩:=acW r
 cases rx
 obtain⟨⟨t,u,v,e⟩,_,_⟩:=I.hok p _ hp
 refine call_list_range (I.ok.hd hc) e hs hn (bI hl (by decide)) fun h' tk acc c' kp hS hI=>?_
 have hz:((List.range n).map fun i:Nat=>V.int (lo+i*st)).length<=sizeLine:=by
  rw[aU,dE,dO]
  omega
 exact⟨.ref s.heap.objs.size,_,I.laid (t':=tk) kp (aS _) (show ObjOk X.prog X.w _ h' _ (.lst _) from ⟨hz,acc.toList,c',asF hI,by simpa using hS⟩),rfl,q _ (I.hok.fresh (aS _))⟩
noncomputable def rBL:V->List V->Hp->VK->Prop:=fun x vs H Q=>∃i,x=.int i/\vs=[]/\Q (.int (Builtin.Int.intBits i:Nat)) H
theorem aM3:MtR X "int.bit_length" rBL:=by
 intro pins s σ H x xs v us Q I rx rv h
 obtain⟨i,rfl,rfl,q⟩:=h
 cases rv
 obtain⟨t,rfl⟩:=rx
 exact call_int_bit_length ⟨.int _,H,I.tok _,⟨_,rfl⟩,q⟩
theorem eBL{o:Expr}{to:TE}{apos cpos:Pos}(ho:E X o to)(hbase:attributeBase o "bit_length" X.env (eval o X.env)=eval o X.env:=by rfl)(hline:(apos.endLine==cpos.line)=true:=by rfl):
  E X (.Call (.Attribute o "bit_length" apos) [] [] cpos) (aM0 X.K "int" rBL to):=⟨aC8 PySem.F.plainAttrs_int PySem.F.slot_int_bit_length PySem.F.type_int_bit_length aM3 ho.h hbase hline⟩
theorem adF:Op2 X (compareOp .Is) (fun x y H Q=>y=.non/\Q (.bl (decide (x=.non))) H):=⟨aC0⟩
theorem awI:Op2 X (compareOp .IsNot) (fun x y H Q=>y=.non/\Q (.bl (!decide (x=.non))) H):=⟨az6⟩
theorem oIn:Op2 X (compareOp .In) (rIn X.K false):=⟨av1⟩
end
theorem Same.none{H H':Hp}{D:Addr}(s:Same H H')(h:H' D=none):H D=none:=by
 cases e:H D with
 |none=>rfl
 |some o=>exact absurd (h.symm.trans (s _ _ e)) (by simp)
noncomputable def Keep(H H':Hp):Prop:=∀b o,(∀xs,o≠ .lst xs)->H b=some o->H' b=some o
theorem Same.keep{H H':Hp}(s:Same H H'):Keep H H':=fun b o _ h=>s b o h
theorem Keep.trans{H H1 H2:Hp}(a:Keep H H1)(b:Keep H1 H2):Keep H H2:=fun c o n h=>b c o n (a c o n h)
theorem akG{H:Hp}{D:Addr}{l l':List V}(h:H D=some (.lst l)):Keep H (upd H D (.lst l')):=fun b o n hb=>by
 by_cases e:b=D
 ·subst e
  rw[h] at hb
  cases hb
  exact absurd rfl (n l)
 ·rw[aaF e]
  exact hb
theorem Keep.tup{H H':Hp}(k:Keep H H'){b:Addr}{xs:List V}(h:H b=some (.tup xs)):H' b=some (.tup xs):=k b _ (fun _ z=>nomatch z) h
theorem Keep.ins{H H':Hp}(k:Keep H H'){b C dx:Addr}{fs:List (Str×V)}(h:H b=some (.ins C dx fs)):H' b=some (.ins C dx fs):=k b _ (fun _ z=>nomatch z) h
section
variable{js:List Nat}{σ:St}{tt:TT}{te:TE}{Q:VK}{H1:Hp}
end
section
variable{X:Cx}{K:FG}
end
inductive Kd where
 |int | bool | str | non | list | tuple | dict
noncomputable def Kd.nm:Kd->String
 |.int=>"int" | .bool=>"bool" | .str=>"str" | .non=>"NoneType" | .list=>"list" | .tuple=>"tuple" | .dict=>"dict"
noncomputable def Kd.isa:Kd->Kd->Bool
 |.int,.int=>true | .bool,.int=>true | .bool,.bool=>true | .str,.str=>true | .list,.list=>true | .tuple,.tuple=>true | .dict,.dict=>true | _,_=>false
noncomputable def KindV(K:FG)(H:Hp):V->Kd->Prop
 |.int _,k=>k=.int
 |.bl _,k=>k=.bool
 |.str _,k=>k=.str
 |.non,k=>k=.non
 |.ref a,k=>(k=.list/\∃xs,SqL K H a xs)∨(k=.tuple/\∃xs,SqT K H a xs)∨(k=.dict/\∃kvs,H a=some (.dK kvs))
 |_,_=>False
theorem cIs{X:Cx}:Cl1 X (.builtin "isinstance") (fun xs H Q=>∃(v:V) (n k:Kd),xs=[v,.ty n.nm]/\n.nm≠"NoneType"/\KindV X.K H v k/\Q (.bl (Kd.isa k n)) H):=by
 refine⟨fun pins s σ H xs us Q I r h=>?_⟩
 obtain⟨v,n,k,rfl,hn,hk,q⟩:=h
 obtain⟨u,w',rfl,r1,r2⟩:=amH r
 cases r2
 have fin:∀tk,EP X pins σ Q (.bool (Kd.isa k n)) {s with toks:=tk}:=fun tk=>⟨.bl _,H,I.tok _,rfl,q⟩
 have fin0:EP X pins σ Q (.bool (Kd.isa k n)) s:=⟨.bl _,H,I,rfl,q⟩
 cases v with
 |int i=>
  obtain⟨t,rfl⟩:=r1
  cases (show k=Kd.int from hk)
  cases n with
  |int=>exact PySem.IsiPair.int_int fin0
  |bool=>exact PySem.IsiPair.int_bool (fin _)
  |str=>exact PySem.IsiPair.int_str (fin _)
  |list=>exact PySem.IsiPair.int_list (fin _)
  |tuple=>exact PySem.IsiPair.int_tuple (fin _)
  |dict=>exact PySem.IsiPair.int_dict (fin _)
  |non=>exact absurd rfl hn
 |bl b=>
  cases r1
  cases (show k=Kd.bool from hk)
  cases n with
  |int=>exact PySem.IsiPair.bool_int fin0
  |bool=>exact PySem.IsiPair.bool_bool fin0
  |str=>exact PySem.IsiPair.bool_str (fin _)
  |list=>exact PySem.IsiPair.bool_list (fin _)
  |tuple=>exact PySem.IsiPair.bool_tuple (fin _)
  |dict=>exact PySem.IsiPair.bool_dict (fin _)
  |non=>exact absurd rfl hn
 |str x=>
  obtain⟨t,rfl⟩:=r1
  cases (show k=Kd.str from hk)
  cases n with
  |int=>exact PySem.IsiPair.str_int (fin _)
  |bool=>exact PySem.IsiPair.str_bool (fin _)
  |str=>exact PySem.IsiPair.str_str fin0
  |list=>exact PySem.IsiPair.str_list (fin _)
  |tuple=>exact PySem.IsiPair.str_tuple (fin _)
  |dict=>exact PySem.IsiPair.str_dict (fin _)
  |non=>exact absurd rfl hn
 |non=>
  cases r1
  cases (show k=Kd.non from hk)
  cases n with
  |int=>exact PySem.IsiPair.NoneType_int (fin _)
  |bool=>exact PySem.IsiPair.NoneType_bool (fin _)
  |str=>exact PySem.IsiPair.NoneType_str (fin _)
  |list=>exact PySem.IsiPair.NoneType_list (fin _)
  |tuple=>exact PySem.IsiPair.NoneType_tuple (fin _)
  |dict=>exact PySem.IsiPair.NoneType_dict (fin _)
  |non=>exact absurd rfl hn
 |ref a=>
  cases r1
  rcases hk with ⟨rfl,ys,hq⟩ | ⟨rfl,ys,hq⟩ | ⟨rfl,kvs,hq⟩
  ·obtain⟨its,rv,pl,_⟩:=I.list hq
   obtain⟨o,ho,hc,_⟩:=pl.isList
   cases n with
   |int=>exact PySem.IsiPair.list_int ho hc (fin _)
   |bool=>exact PySem.IsiPair.list_bool ho hc (fin _)
   |str=>exact PySem.IsiPair.list_str ho hc (fin _)
   |list=>exact PySem.IsiPair.list_list ho hc fin0
   |tuple=>exact PySem.IsiPair.list_tuple ho hc (fin _)
   |dict=>exact PySem.IsiPair.list_dict ho hc (fin _)
   |non=>exact absurd rfl hn
  ·obtain⟨its,rv,⟨o,ho,hc,_⟩,_⟩:=I.tuple hq
   cases n with
   |int=>exact PySem.IsiPair.tuple_int ho hc (fin _)
   |bool=>exact PySem.IsiPair.tuple_bool ho hc (fin _)
   |str=>exact PySem.IsiPair.tuple_str ho hc (fin _)
   |list=>exact PySem.IsiPair.tuple_list ho hc (fin _)
   |tuple=>exact PySem.IsiPair.tuple_tuple ho hc fin0
   |dict=>exact PySem.IsiPair.tuple_dict ho hc (fin _)
   |non=>exact absurd rfl hn
  ·obtain⟨_,_,_,_,o,_,_,ho,ex,_⟩:=I.hok a _ hq
   cases n with
   |int=>exact PySem.IsiPair.dict_int ho ex.1 (fin _)
   |bool=>exact PySem.IsiPair.dict_bool ho ex.1 (fin _)
   |str=>exact PySem.IsiPair.dict_str ho ex.1 (fin _)
   |list=>exact PySem.IsiPair.dict_list ho ex.1 (fin _)
   |tuple=>exact PySem.IsiPair.dict_tuple ho ex.1 (fin _)
   |dict=>exact PySem.IsiPair.dict_dict ho ex.1 fin0
   |non=>exact absurd rfl hn
 |byt b=>exact False.elim hk
 |flt b=>exact False.elim hk
 |ty n=>exact False.elim hk
end L2
namespace L2
open PySem PySem.Spec PyProof.Rows PySem.Builtin PySem.Builtin.Str
noncomputable abbrev Tx(l:List Nat):Str:=⟨l.toArray⟩
theorem Tx_inj{a b:List Nat}:Tx a=Tx b↔a=b:=⟨fun h=>by
 have:(Tx a).cps.toList=(Tx b).cps.toList:=by rw[h]
 simpa using this,fun h=>by rw[h]⟩
theorem aBW(x:Str):Tx x.cps.toList=x:=by cases x;simp
theorem abD(a:List Nat):(Tx a).length=a.length:=by simp[Str.length]
noncomputable def Itx(x:Str):It:=⟨fun i _=>i<x.cps.size,fun i H v H'=>H'=H/\∃c,x.cps[i]? =some c/\v=.str ⟨#[c]⟩,fun i _=>i=x.cps.size⟩
theorem au4{P:Program}{w:World}{K:FG}{tg:Expr}(x:Str)(t:Tok)(it:Addr):Turn P w K tg (Itx x) [it] it (fun i h=>h.IsStrIter it "str_ascii_iterator" x t i) where
 mem:=by simp
 obj:=fun i h st b hb=>by
  have e:b=it:=by simpa using hb
  subst e
  obtain⟨o,e,c,d⟩:=st
  exact⟨o,e,fun v z=>by rw[d] at z;cases z⟩
 keep:=fun i h h' st k=>by
  obtain⟨o,e,r⟩:=st
  exact⟨o,k it (by simp) o e,r⟩
 item:=by
  intro X hP hw hK hc i pins s σ H E I hf st hg
  subst hP hw hK
  obtain⟨f0,f1,f2,f3,f4,f5⟩:=hf it (by simp)
  have hg:i<x.cps.size:=hg
  refine wpAny_pyNext_ascii_item st (c:=x.cps[i]) (by simp[hg]) fun h' st' sb=>?_
  have I1:Inv X pins σ H {s with heap:=h',toks:=s.toks+1}:=I.turned (fun b o hb e=>sb.extBut b o hb e) f0 f1 f3 f4 f5
  obtain⟨o,e,c,d⟩:=id st'
  exact⟨_,rfl,ap2 (s:={s with heap:=h',toks:=s.toks+1}) e c d (by decide) ⟨.str ⟨#[x.cps[i]]⟩,H,I1,⟨_,rfl⟩,⟨rfl,x.cps[i],by simp[hg],rfl⟩,st',fun b hb=>(hf b hb).1⟩⟩
 done:=by
  intro X hP hw hK hc i pins s σ H E I hf st hg
  subst hP hw hK
  obtain⟨f0,f1,f2,f3,f4,f5⟩:=hf it (by simp)
  have hg:i=x.cps.size:=hg
  exact wpAny_pyNext_ascii_end (I.ok.hd hc) st (by simp[hg]) fun h' eb=>⟨rfl,I.turned (t':=s.toks) (fun b o hb e=>eb b o hb e) f0 f1 f3 f4 f5⟩
 self:=fun _ _ _ _ _ st h=>wpAny_pyIter_striter_ascii st h
theorem avB{P:Program}{w:World}{K:FG}{tg:Expr}(x:Str)(t:Tok)(it:Addr):Turn P w K tg (Itx x) [it] it (fun i h=>h.IsStrIter it "str_iterator" x t i) where
 mem:=by simp
 obj:=fun i h st b hb=>by
  have e:b=it:=by simpa using hb
  subst e
  obtain⟨o,e,c,d⟩:=st
  exact⟨o,e,fun v z=>by rw[d] at z;cases z⟩
 keep:=fun i h h' st k=>by
  obtain⟨o,e,r⟩:=st
  exact⟨o,k it (by simp) o e,r⟩
 item:=by
  intro X hP hw hK hc i pins s σ H E I hf st hg
  subst hP hw hK
  obtain⟨f0,f1,f2,f3,f4,f5⟩:=hf it (by simp)
  have hg:i<x.cps.size:=hg
  refine wpAny_pyNext_wide_item st (c:=x.cps[i]) (by simp[hg]) fun h' st' sb=>?_
  have I1:Inv X pins σ H {s with heap:=h',toks:=s.toks+1}:=I.turned (fun b o hb e=>sb.extBut b o hb e) f0 f1 f3 f4 f5
  obtain⟨o,e,c,d⟩:=id st'
  exact⟨_,rfl,ap2 (s:={s with heap:=h',toks:=s.toks+1}) e c d (by decide) ⟨.str ⟨#[x.cps[i]]⟩,H,I1,⟨_,rfl⟩,⟨rfl,x.cps[i],by simp[hg],rfl⟩,st',fun b hb=>(hf b hb).1⟩⟩
 done:=by
  intro X hP hw hK hc i pins s σ H E I hf st hg
  subst hP hw hK
  obtain⟨f0,f1,f2,f3,f4,f5⟩:=hf it (by simp)
  have hg:i=x.cps.size:=hg
  exact wpAny_pyNext_wide_end (I.ok.hd hc) st (by simp[hg]) fun h' eb=>⟨rfl,I.turned (t':=s.toks) (fun b o hb e=>eb b o hb e) f0 f1 f3 f4 f5⟩
 self:=fun _ _ _ _ _ st h=>wpAny_pyIter_striter_wide st h
section
variable{X:Cx}{tg:Expr}
noncomputable def iTxt(tl:TE):TI:=fun σ H R=>tl σ H fun x H1=>∃z,x=.str z/\R (Itx z) H1
theorem iX{l:Expr}{tl:TE}(hl:E X l tl):Il X tg l (iTxt tl):=by
 refine⟨fun pins s σ H R I h=>?_⟩
 refine thn (hl.h pins s σ H _ I h) fun u s1 ⟨x,H1,I1,r1,q1⟩=>?_
 obtain⟨z,rfl,q⟩:=q1
 obtain⟨t,rfl⟩:=r1
 have fp:∀b∈[s1.heap.objs.size],adB X pins H1 b:=fun b hb=>by
  have e:b=s1.heap.objs.size:=by simpa using hb
  subst e
  exact I1.fpOk (aS _) (I1.hok.fresh (aS _))
 cases ha:z.cps.all (·<128)
 ·exact wpAny_pyIter_wide ha ⟨s1.heap.objs.size,[s1.heap.objs.size],_,_,H1,rfl,I1.kept (t':=s1.toks) fun b o e=>a8 _ e,avB z t _,⟨_,bK _ rfl,rfl,rfl⟩,fp,q⟩
 ·exact wpAny_pyIter_ascii ha ⟨s1.heap.objs.size,[s1.heap.objs.size],_,_,H1,rfl,I1.kept (t':=s1.toks) fun b o e=>a8 _ e,au4 z t _,⟨_,bK _ rfl,rfl,rfl⟩,fp,q⟩
end
section
variable{js:List Nat}{σ:St}{tt:TT}{te:TE}{Q:VK}{H1:Hp}
theorem axS{xs:List Nat}(R:Nat->List V->Prop)(hn:xs.length<=sizeLine)(h0:R 0 [])
  (hs:∀(i:Nat) (c:Nat) (l:List V) (D:Addr) (H2:Hp) (E:V->Hp->Prop) (F:Hp->Prop),xs[i]? =some c->R i l->H1 D=none->Same H1 H2->H2 D=some (.lst l)->(∀y H5,Same H2 H5->R (i+1) (l++[y])->E y H5)->(∀H4,Same H2 H4->R (i+1) l->F H4)->
   tt (some (.str (Tx [c]))::aaZ js σ) H2 fun b H4=>if b=true then te (some (.str (Tx [c]))::aaZ js σ) H4 E else F H4)
  (hd:∀(D:Addr) (H2:Hp) (l:List V),R xs.length l->H1 D=none->Same H1 H2->H2 D=some (.lst l)->Q (.ref D) H2):atB (Itx (Tx xs)) js σ tt te Q H1:=by
 intro D hD
 have hz:(Tx xs).cps.size=xs.length:=by simp
 refine⟨fun i m H2=>m=xs.length-i/\i<=xs.length/\Same H1 H2/\∃l,H2 D=some (.lst l)/\l.length<=i/\R i l,⟨xs.length,by simp,bO _,aaB hD _,[],aaA,aS _,h0⟩,?_⟩
 rintro i m H2 ⟨rfl,hi,s2,l,h2,hll,hR⟩
 by_cases hlt:i<xs.length
 ·refine .inr ⟨show i<(Tx xs).cps.size by rw[hz];exact hlt,fun v H3 y=>?_⟩
  obtain⟨e,c,ec,ev⟩:=y
  subst e ev
  refine hs i c l D _ _ _ (by simpa using ec) hR hD s2 h2 (fun z H5 s5 r5=>?_) (fun H4 s4 r4=>?_)
  ·refine⟨l,s5 _ _ h2,dD hll (aZ hlt hn),xs.length-(i+1),by omega,rfl,hlt,fun b o hb=>?_,l++[z],aaA,by rw[aW,bV];omega,r5⟩
   rw[aaF (aaI hb hD)]
   exact s5 _ _ (s2 _ _ hb)
  ·exact⟨xs.length-(i+1),by omega,rfl,hlt,s2.trans s4,l,s4 _ _ h2,by omega,r4⟩
 ·have e:i=xs.length:=by omega
  subst e
  exact .inl ⟨show xs.length=(Tx xs).cps.size by rw[hz],hd D H2 l hR hD s2 h2⟩
end
section
variable{X:Cx}
theorem apS{prog:Program}{w:World}{A:Around}{its:Array Value}{bs:List Bool}(r:Vals (bs.map V.bl) its.toList):TruthOf prog w A (fun i v=>its[i]? =some v) (fun i=>bs.getD i false):=by
 intro i v s Q E hv hq
 have hv':its.toList[i]? =some v:=by rw[Array.getElem?_toList];exact hv
 have hi:i<bs.length:=by
  have h1:=r.length
  rw[aU] at h1
  rcases Nat.lt_or_ge i its.toList.length with z | z
  ·omega
  ·rw[List.getElem?_eq_none z] at hv';cases hv'
 obtain⟨u,hu,ru⟩:=r.get (i:=i) (x:=V.bl bs[i]) (by rw[bE,cJ hi];rfl)
 rw[hv'] at hu
 cases hu
 cases ru
 have e:bs.getD i false=bs[i]:=by simp[List.getD,cJ hi]
 have hq:Q (bs.getD i false) s:=hq
 rw[e] at hq
 exact dZ hq
theorem av8(bs:List Bool):(List.range bs.length).all (fun i=>bs.getD i false)=bs.all id:=by
 rw[cQ,bW,bW]
 refine⟨fun h b hb=>?_,fun h i hi=>?_⟩
 ·obtain⟨i,hi,e⟩:=List.getElem_of_mem hb
  have:=h i (cN.mpr hi)
  rw[show bs.getD i false=bs[i] by simp[List.getD,cJ hi],e] at this
  exact this
 ·have hi:=cN.mp hi
  rw[show bs.getD i false=bs[i] by simp[List.getD,cJ hi]]
  exact h _ (List.getElem_mem hi)
theorem cAll(hc:X.calm=true:=by rfl):Cl1 X (.builtin "all") (fun xs H Q=>∃(p:Addr) (bs:List Bool),xs=[.ref p]/\SqL X.K H p (bs.map V.bl)/\Q (.bl (bs.all id)) H):=by
 refine⟨fun pins s σ H xs us Q I r h=>?_⟩
 obtain⟨p,bs,rfl,hq,q⟩:=h
 obtain⟨u,rfl,r1⟩:=acW r
 cases r1
 obtain⟨its,rv,pl,hz⟩:=I.list hq
 have hne:p≠s.heap.objs.size:=by
  obtain⟨o,ho,_⟩:=pl.isList
  exact aY (aV ho)
 refine call_all_walk (wpAny_pyIter_list pl.isList ⟨s.heap.objs.size,[s.heap.objs.size,p],[s.heap.objs.size],its.toArray.size,(fun i v=>its.toArray[i]? =some v),(fun i h=>h.IsListIter s.heap.objs.size p i/\h.IsList p its.toArray),(fun i=>bs.getD i false),rfl,Walks.list (prog:=X.prog) (w:=X.w) (A:=X.A.in1) (I.ok.hd hc) _ p hne its.toArray,⟨⟨_,bK _ rfl,rfl,rfl⟩,pl.isList.push _⟩,apS (by simpa using rv),fun h' tk hk=>?_⟩)
 have hl:=rv.length
 rw[aU] at hl
 have e:its.toArray.size=bs.length:=by rw[bG];omega
 rw[e,av8]
 exact⟨.bl _,H,I.kept fun b o eb=>hk b o (by simpa using aY (aV eb)) (a8 _ eb),rfl,q⟩
end
end L2
namespace L2
open PySem PySem.Spec PyProof.Rows PySem.Builtin PySem.Builtin.Str
noncomputable def spl(c:Nat):List Nat->List (List Nat)
 |[]=>[[]]
 |x::r=>if x=c then []::spl c r else match spl c r with
  |h::t=>(x::h)::t
  |[]=>[[x]]
noncomputable def aa1(c:Nat):List (List Nat)->List Nat
 |[]=>[]
 |[p]=>p
 |p::r=>p++c::aa1 c r
theorem aEK(c:Nat):∀l,spl c l≠[]
 |[]=>by simp[spl]
 |x::r=>by
  unfold spl
  split
  ·simp
  ·split<;>simp
theorem acZ(c:Nat):∀(p:List Nat),c∉p->spl c p=[p]
 |[],_=>rfl
 |x::r,h=>by
  have h1:¬x=c:=fun e=>h (by simp[e])
  have h2:=acZ c r fun e=>h (by simp[e])
  unfold spl
  rw[if_neg h1,h2]
theorem ajJ(c:Nat):∀(p r:List Nat),c∉p->spl c (p++c::r)=p::spl c r
 |[],r,_=>by
  show spl c (c::r)=_
  unfold spl
  rw[if_pos rfl]
  cases r<;>rfl
 |x::q,r,h=>by
  have h1:¬x=c:=fun e=>h (by simp[e])
  have h2:=ajJ c q r fun e=>h (by simp[e])
  show spl c (x::(q++c::r))=_
  rw[spl,if_neg h1,h2]
theorem aeB(c:Nat):∀(ps:List (List Nat)),ps≠[]->(∀p∈ps,c∉p)->spl c (aa1 c ps)=ps
 |[],h,_=>absurd rfl h
 |[p],_,h=>acZ c p (h p (by simp))
 |p::q::r,_,h=>by
  show spl c (p++c::aa1 c (q::r))=_
  rw[ajJ c p _ (h p (by simp)),aeB c (q::r) (by simp) fun z hz=>h z (bY _ hz)]
theorem anG(c:Nat):∀ps:List Str,(Str.join (Tx [c]) ps).cps.toList=aa1 c (ps.map (·.cps.toList))
 |[]=>rfl
 |[p]=>rfl
 |p::q::r=>by
  have ih:=anG c (q::r)
  show (p++Tx [c]++Str.join (Tx [c]) (q::r)).cps.toList=p.cps.toList++c::aa1 c ((q::r).map (·.cps.toList))
  rw[←ih]
  show ((p.cps++ #[c])++(Str.join (Tx [c]) (q::r)).cps).toList=_
  simp
theorem axD(x y:Str)(h:Txt.split x y=[]):False:=by
 unfold Txt.split at h
 split at h
 ·cases h
 ·split at h
  ·cases h
  ·have e:=congrArg List.length h
   rw[length_partsBetween] at e
   simp at e
theorem axI(l:List Nat)(c:Nat):(Txt.split (Tx l) (Tx [c])).map (·.cps.toList)=spl c l:=by
 have h1:=StrLaws.join_split (Tx l) (Tx [c])
 have h2:=StrLaws.split_free (Tx l) c
 have h3:=anG c (Txt.split (Tx l) (Tx [c]))
 rw[h1] at h3
 have e:aa1 c ((Txt.split (Tx l) (Tx [c])).map (·.cps.toList))=l:=by rw[←h3]
 rw[←aeB c ((Txt.split (Tx l) (Tx [c])).map (·.cps.toList)) (fun z=>axD _ _ (List.map_eq_nil_iff.mp z)) ?_,e]
 intro p hp
 obtain⟨z,hz,rfl⟩:=bS.mp hp
 exact h2 z hz
theorem auV(l:List Nat)(c:Nat):Txt.split (Tx l) (Tx [c])=(spl c l).map Tx:=by
 rw[←axI,cC]
 have:∀ps:List Str,ps=ps.map ((fun w:List Nat=>Tx w) ∘ fun x=>x.cps.toList):=fun ps=>by
  induction ps with
  |nil=>rfl
  |cons a r ih=>rw[bD,←ih];simp
 exact this _
theorem amJ:∀l:List (Str×Tok),Vals (l.map fun p=>V.str p.1) (strValues l)
 |[]=>.nil
 |p::r=>.cons ⟨p.2,rfl⟩ (amJ r)
section
variable{prog:Program}{w:World}{A:Around}{E:Value->Shared->Prop}{s:Shared}{x y:Str}{t u:Tok}{Q:Value->Shared->Prop}
theorem ar6(hy:(y.length==0)=false)(hsz:x.length+2<=sizeLine)
  (h:∀l k,l.map (·.1)=Txt.split x y->Q (.ref s.heap.objs.size) {s with heap:=s.heap.push {cls:=.type "list",data:=.seq (strValues l).toArray},toks:=k}):
  wpAny (model prog w) A (call (.builtin "str.split") [.str x t,.str y u]) Q E s:=by
 have hn:(partsBetween x (occurrences x y 0 x.length (x.length+1)) y.length).length<=sizeLine:=by
  have e1:=StrLaws.occ_length_le x y 0 x.length (x.length+1)
  rw[length_partsBetween];omega
 cases h1:(decide (x.length<y.length)||decide (strKind x<strKind y))
 ·cases hf:(occurrences x y 0 x.length (x.length+1)).isEmpty
  ·refine call_meets F.slot_str_split (typeIs_str _ _ _) F.entry_str_split (F.args_str_split_2 _ _) (meets_str_split_sep x y t u h1 hy hf (by omega) hn) ?_
   show wants Q E _ {s with toks:=_,heap:=s.heap.push {cls:=.type "list",data:=.seq (strsFrom s.toks (partsBetween x (occurrences x y 0 x.length (x.length+1)) y.length)).toArray} }
   rw[strsFrom_eq]
   exact h (numbered s.toks _) _ ((numbered_texts _ _).trans ((if_neg (ne_true_of_eq_false h1)).trans (if_neg (ne_true_of_eq_false hf))).symm)
  ·exact call_meets F.slot_str_split (typeIs_str _ _ _) F.entry_str_split (F.args_str_split_2 _ _) (meets_str_split_not_found x y t u h1 hy hf)
    (h [(x,t)] s.toks ((if_neg (ne_true_of_eq_false h1)).trans (if_pos hf)).symm)
 ·exact call_meets F.slot_str_split (typeIs_str _ _ _) F.entry_str_split (F.args_str_split_2 _ _) (meets_str_split_cannot_occur x y t u h1)
   (h [(x,t)] s.toks (if_pos h1).symm)
end
theorem ag1(c:Nat):∀l,(spl c l).length<=l.length+1
 |[]=>by simp[spl]
 |x::r=>by
  have ih:=ag1 c r
  unfold spl
  split
  ·simp;omega
  ·split
   ·rename_i e;rw[e] at ih;simp at ih ⊢;omega
   ·simp
section
variable{X:Cx}
noncomputable def awU:V->List V->Hp->VK->Prop:=fun x vs H Q=>∃(l:List Nat) (c:Nat),x=.str (Tx l)/\vs=[.str (Tx [c])]/\l.length+2<=sizeLine/\∀p,H p=none->Q (.ref p) (upd H p (.lst ((spl c l).map fun q=>V.str (Tx q))))
theorem axL:MtR X "str.split" awU:=by
 intro pins s σ H x xs v us Q I rx rv h
 obtain⟨l,c,rfl,rfl,hz,q⟩:=h
 obtain⟨u,rfl,t',rfl⟩:=acW rv
 obtain⟨t,rfl⟩:=rx
 refine ar6 (by rfl) (by rw[abD];exact hz) fun ps k e=>?_
 have e2:ps.map (fun p=>V.str p.1)=(spl c l).map fun q=>V.str (Tx q):=by
  have:=congrArg (List.map V.str) e
  rw[auV,cC,cC] at this
  exact this
 have hl:((spl c l).map fun q=>V.str (Tx q)).length<=sizeLine:=by
  have:=ag1 c l
  rw[aU]
  omega
 refine⟨.ref s.heap.objs.size,upd H s.heap.objs.size (.lst ((spl c l).map fun q=>V.str (Tx q))),I.laid (t':=k) (fun b u e=>a8 _ e) (aS _) ?_,rfl,q _ (I.hok.fresh (aS _))⟩
 exact⟨hl,strValues ps,0,by rw[←e2];exact amJ ps,bK _ rfl⟩
theorem au6{o e:Expr}{to te:TE}{apos cpos:Pos}(ho:E X o to)(he:E X e te)(hbase:attributeBase o "split" X.env (eval o X.env)=eval o X.env:=by rfl)
  (hfew:((backTo cpos (starEach [e] X.env)).all (fun x=> !x.1)&&(backToKw cpos (keywordEach [] X.env)).all (fun x=>x.1.isSome)&&decide (([e]:List Expr).length+([]:List Keyword).length+(if ([]:List Keyword).isEmpty then 0 else 1)<30))=true:=by rfl)
  (hline:(apos.endLine==cpos.line)=true:=by rfl) (hs:starEach [e] X.env=(false,eval e X.env)::starEach [] X.env:=by rfl) (hplain:(backTo cpos (starEach [] X.env)).any (·.1)=false:=by rfl):
  E X (.Call (.Attribute o "split" apos) [e] [] cpos) (tBM X.K "str" awU to (aeF te alG)):=
 ⟨aqD PySem.F.plainAttrs_str PySem.F.slot_str_split PySem.F.type_str_split axL ho.h (acT he.h aeQ hs) hbase hfew hline hs hplain⟩
theorem oInX:Op2 X (compareOp .In) (fun x y H Q=>∃(c:Nat) (l:List Nat),x=.str (Tx [c])/\y=.str (Tx l)/\Q (.bl (decide (c∈l))) H):=by
 refine⟨fun pins s σ H x y v u Q I rx ry h=>?_⟩
 obtain⟨c,l,rfl,rfl,q⟩:=h
 refine avC pins s σ H _ _ v u Q I rx ry ⟨_,_,rfl,rfl,?_⟩
 rw[show (!(occurrences (Tx l) (Tx [c]) 0 (Tx l).length 1).isEmpty)=decide (c∈(Tx l).cps.toList) from StrLaws.found_one (Tx l) c]
 exact q
theorem aw7:Cl1 X (.builtin "len") (fun xs H Q=>∃l:List Nat,xs=[.str (Tx l)]/\l.length<=sizeLine/\Q (.int l.length) H):=by
 refine⟨fun pins s σ H xs us Q I r h=>?_⟩
 obtain⟨l,rfl,hz,q⟩:=h
 refine an9 pins s σ H _ us Q I r ⟨Tx l,rfl,by rw[abD];exact hz,?_⟩
 rw[abD]
 exact q
theorem acC:Op2 X (binaryOp .Add) (fun x y H Q=>∃a b:List Nat,x=.str (Tx a)/\y=.str (Tx b)/\a.length+b.length<=sizeLine/\Q (.str (Tx (a++b))) H):=by
 refine⟨fun pins s σ H x y v u Q I rx ry h=>?_⟩
 obtain⟨a,b,rfl,rfl,hz,q⟩:=h
 refine as9 pins s σ H _ _ v u Q I rx ry ⟨_,_,rfl,rfl,by rw[abD,abD];exact hz,?_⟩
 have e:Tx a++Tx b=Tx (a++b):=by show Str.mk _=Str.mk _;simp
 rw[e]
 exact q
theorem xX:Ixs X (fun x y H Q=>∃(l:List Nat) (i:Int) (c:Nat),x=.str (Tx l)/\y=.int i/\l.length<=sizeLine/\atI l i=some c/\Q (.str (Tx [c])) H):=by
 refine⟨fun value slice pins s σ H x y v u Q I rx ry h hs=>?_⟩
 obtain⟨l,i,c,rfl,rfl,hz,ha,q⟩:=h
 exact aC4 value slice pins s σ H _ _ v u Q I rx ry ⟨Tx l,i,c,rfl,rfl,by rw[abD];exact hz,by simpa using ha,q⟩ hs
end
end L2
namespace L2
open PySem PySem.Spec PyProof.Rows PySem.Builtin PySem.Builtin.Str
section
variable{X:Cx}{pins:List (Addr×Obj)}{σ:St}{H:Hp}{s:Shared}{h':Heap}
theorem Inv.turnT{ch:List Addr}{T:Addr}{o:HO}{t':Nat}(I:Inv X pins σ H s)(k:∀b u,b∉ch->s.heap.get? b=some u->h'.get? b=some u)(hch:∀b∈ch,adB X pins H b)(hT:s.heap.objs.size<=T)(new:ObjOk X.prog X.w (upd H T o) h' T o):
  Inv X pins σ (upd H T o) {s with heap:=h',toks:=t'}:=by
 have hn:=I.hok.fresh hT
 have nit:∀b u,H b=some u->b∉ch:=fun b u e z=>by rw[(hch b z).1] at e;cases e
 refine I.step (g':=s.gens) (d':=s.drawn) (ch:=ch) (fun b hb=>?_) (fun b u _ _ hc e _=>k b u hc e) (fun b u _ _ hc e _=>⟨u.slots,k b u hc e⟩) (fun b u _ e n=>?_)
  (fun b u hc e=>⟨u,k b u hc e⟩) (fun b xs e=>by rw[aaF (aaI e hn)];exact e) (fun b u xs e=>by rw[aaF (aaI e hn)];exact e) (fun b ps e=>⟨#[],by rw[aaF (aaI e hn),e];simp⟩) (fun m hm=>?_) (fun b u e=>?_) I.bare
 ·obtain⟨f0,f1,f2,f3,f4,f5⟩:=hch b hb
  exact⟨f3,f1,f4,f5⟩
 ·rw[aaF (aY (aZ (aV e) hT))]
  exact n
 ·obtain⟨ob,es,ep,ho,r⟩:=hm
  exact⟨ob,es,ep,k _ ob (fun z=>(hch _ z).2.1 rfl) ho,r⟩
 ·by_cases hb:b=T
  ·subst hb;rw[aaA] at e;cases e;exact new
  ·rw[aaF hb] at e
   refine (I.hok b u e).stay (fun c v hc q=>k c v ?_ q) (fun c q=>by rw[aaF (aaI q hn)];exact q) fun c xs q=>by rw[aaF (aaI q hn)];exact q
   rcases hc with z | z
   ·rw[z];exact nit b u e
   ·exact nit c _ z
theorem Inv.turnN{ch:List Addr}{t':Nat}(I:Inv X pins σ H s)(k:∀b u,b∉ch->s.heap.get? b=some u->h'.get? b=some u)(hch:∀b∈ch,adB X pins H b):Inv X pins σ H {s with heap:=h',toks:=t'}:=by
 have nit:∀b u,H b=some u->b∉ch:=fun b u e z=>by rw[(hch b z).1] at e;cases e
 refine I.step (g':=s.gens) (d':=s.drawn) (ch:=ch) (fun b hb=>?_) (fun b u _ _ hc e _=>k b u hc e) (fun b u _ _ hc e _=>⟨u.slots,k b u hc e⟩) (fun b u _ e n=>n)
  (fun b u hc e=>⟨u,k b u hc e⟩) (fun b xs e=>e) (fun b u xs e=>e) (fun b ps e=>⟨#[],by rw[e];simp⟩) (fun m hm=>?_) (fun b u e=>?_) I.bare
 ·obtain⟨f0,f1,f2,f3,f4,f5⟩:=hch b hb
  exact⟨f3,f1,f4,f5⟩
 ·obtain⟨ob,es,ep,ho,r⟩:=hm
  exact⟨ob,es,ep,k _ ob (fun z=>(hch _ z).2.1 rfl) ho,r⟩
 ·refine (I.hok b u e).stay (fun c v hc q=>k c v ?_ q) (fun c q=>q) fun c xs q=>q
  rcases hc with z | z
  ·rw[z];exact nit b u e
  ·exact nit c _ z
end
noncomputable def Ite(K:FG)(a:Addr):It:=
 ⟨fun i H=>∃xs x,SqL K H a xs/\xs[i]? =some x,fun i H v H'=>∃T,v=.ref T/\H T=none/\∀xs,SqL K H a xs->∃x,xs[i]? =some x/\H'=upd H T (.tup [.int i,x]),fun i H=>∃xs,SqL K H a xs/\xs.length=i⟩
theorem avD{P:Program}{w:World}{K:FG}{es:List Expr}{kk:Nat}{pos:Pos}(a e it:Addr)(hne:e≠it):Turn P w K (.Tuple es kk pos) (Ite K a) [e,it] e (fun i h=>(∃old,IsEnum h e it i old)/\h.IsListIter it a i) where
 mem:=by simp
 obj:=fun i h st b hb=>by
  obtain⟨⟨old,he⟩,o,e1,c,d⟩:=st
  rcases bB.mp hb with z | z
  ·subst z
   exact⟨_,he,fun v q=>by
    have q':Data.fields _=Data.cell v:=q
    cases q'⟩
  ·have z:b=it:=by simpa using z
   subst z
   exact⟨o,e1,fun v q=>by rw[d] at q;cases q⟩
 keep:=fun i h h' st k=>by
  obtain⟨⟨old,he⟩,hit⟩:=st
  exact⟨⟨old,k e (by simp) _ he⟩,hit.at fun o q=>k it (by simp) o q⟩
 item:=by
  intro X hP hw hK hc i pins s σ H E I hf st hg
  subst hP hw hK
  obtain⟨xs,x,hq,hx⟩:=hg
  obtain⟨⟨old,he⟩,hit⟩:=st
  obtain⟨its,rv,p,hz⟩:=I.list hq
  obtain⟨u,hu,ru⟩:=rv.get hx
  refine wpAny_pyNext_enum_item he hit p.isList (x:=u) (by simpa using hu) hne fun h1 ho hit1 hT hsz hk=>?_
  refine⟨_,rfl,wpAny_letOwnedTupleGo_enum ho fun h2 he2 sb=>?_⟩
  have ele:e<s.heap.objs.size:=aV he
  have k2:∀b ob,b∉[e,it]->s.heap.get? b=some ob->h2.get? b=some ob:=fun b ob hb q=>by
   have n1:b≠e:=fun z=>hb (by simp[z])
   have n2:b≠it:=fun z=>hb (by simp[z])
   exact (sb.2 b n1).trans (hk b ob n1 n2 q)
  have hTn:s.heap.objs.size≠e:=Nat.ne_of_gt ele
  have hT2:h2.get? s.heap.objs.size=some {cls:=.type "tuple",data:=.seq #[.int i s.toks,u]}:=(sb.2 _ hTn).trans hT
  have hn:=I.hok.fresh (aS s.heap.objs.size)
  have I2:Inv X pins σ (upd H s.heap.objs.size (.tup [.int i,x])) {s with heap:=h2,toks:=s.toks+1}:=I.turnT k2 hf (aS _) ⟨by show 2<=sizeLine;decide,[.int i s.toks,u],.cons ⟨_,rfl⟩ (.cons ru .nil),⟨_,hT2,rfl,_,rfl⟩⟩
  refine⟨.ref s.heap.objs.size,_,I2,rfl,⟨s.heap.objs.size,rfl,hn,fun ys hy=>⟨x,by rw[I.list_inj hy hq];exact hx,rfl⟩⟩,⟨⟨_,by simpa using he2⟩,hit1.at fun o q=>(sb.2 it (Ne.symm hne)).trans q⟩,fun b hb=>?_⟩
  have hblt:b<s.heap.objs.size:=by
   rcases bB.mp hb with z | z
   ·rw[z];exact ele
   ·have z:b=it:=by simpa using z
    obtain⟨o,q,_⟩:=hit
    rw[z];exact aV q
  rw[aaF (aY hblt)]
  exact (hf b hb).1
 done:=by
  intro X hP hw hK hc i pins s σ H E I hf st hg
  subst hP hw hK
  obtain⟨xs,hq,hx⟩:=hg
  obtain⟨⟨old,he⟩,hit⟩:=st
  obtain⟨its,rv,p,hz⟩:=I.list hq
  have hl:=rv.length
  refine wpAny_pyNext_enum_end (I.ok.hd hc) he hit p.isList (by simp;omega) fun h' hk=>⟨rfl,?_⟩
  exact I.turnN (ch:=[e,it]) (t':=s.toks) (fun b ob hb q=>hk b ob (fun z=>hb (by simp[z])) q) hf
 self:=fun _ _ _ _ _ st h=>by
  obtain⟨⟨old,he⟩,_⟩:=st
  exact wpAny_pyIter_enum he h
section
variable{X:Cx}{es:List Expr}{kk:Nat}{tpos:Pos}
noncomputable def iEnu(K:FG)(tl:TE):TI:=fun σ H R=>tl σ H fun x H1=>∃a,x=.ref a/\(∃xs,SqL K H1 a xs)/\R (Ite K a) H1
theorem avL:bootBuiltins "enumerate"=some (.type "enumerate"):=by decide +kernel
theorem iE{l:Expr}{tl:TE}{p pos:Pos}(hm:X.mg "enumerate"=none)(hl:E X l tl)(hg:Gl X "enumerate":=by rfl)(hs:starEach [l] X.env=[(false,eval l X.env)]:=by rfl):
  Il X (.Tuple es kk tpos) (.Call (.Name "enumerate" p) [l] [] pos) (iEnu X.K tl):=by
 refine⟨fun pins s σ H R I h=>?_⟩
 have hA:PA X [l] (aeF tl alG):=acT hl.h aeQ hs
 refine Call_ (ahQ I hg hm avL (PyProof.Rows.callWith_type1 (thn (hA pos pins s σ H (fun vs H1=>match vs with | [x]=>∃a,x=.ref a/\(∃xs,SqL X.K H1 a xs)/\R (Ite X.K a) H1 | _=>False) I ?_) fun us s1 ⟨vs,H1,I1,r1,q1⟩=>?_) hs rfl))
 ·exact h
 match vs,q1,r1 with
 |[x],q1,r1=>?_
 obtain⟨a,rfl,⟨xs,hq⟩,q⟩:=q1
 obtain⟨u,rfl,rx⟩:=acW r1
 cases rx
 obtain⟨its,rv,pl,hz⟩:=I1.list hq
 refine call_enumerate_list pl.isList fun h' he hit hsz hk=>?_
 refine wpAny_pyIter_enum he ?_
 have I2:Inv X pins σ H1 {s1 with heap:=h'}:=I1.kept (t':=s1.toks) hk
 have hne:s1.heap.objs.size+1≠s1.heap.objs.size:=Nat.ne_of_gt (Nat.lt_succ_self _)
 refine⟨s1.heap.objs.size+1,[s1.heap.objs.size+1,s1.heap.objs.size],_,_,H1,rfl,I2,avD a _ _ hne,⟨⟨_,he⟩,hit⟩,fun b hb=>?_,q⟩
 have hb2:s1.heap.objs.size<=b:=by
  rcases bB.mp hb with z | z
  ·rw[z];exact Nat.le_succ _
  ·have z:b=s1.heap.objs.size:=by simpa using z
   rw[z];exact aS _
 exact I1.fpOk hb2 (I1.hok.fresh hb2)
end
theorem akX{K:FG}{a:Addr}{xs:List V}{g:TG}{tb:TS}{D:Ends}{σ:St}{H:Hp}(Pv:Nat->St->Hp->Prop)(h0:Pv 0 σ H)(hl:∀i σ H,i<=xs.length->Pv i σ H->SqL K H a xs)
  (hs:∀i x σ H T,xs[i]? =some x->Pv i σ H->H T=none->g (.ref T) σ (upd H T (.tup [.int i,x])) fun σ2 H2=>tb {D with nx:=Pv (i+1),ct:=Pv (i+1),bk:=D.nx} σ2 H2) (hd:∀σ H,Pv xs.length σ H->D.nx σ H):
  ∃W:Nat->Nat->St->Hp->Prop,(∃m,W 0 m σ H)/\∀i m σ H,W i m σ H->
   ((Ite K a).stop i H/\D.nx σ H)∨((Ite K a).go i H/\∃N:St->Hp->Prop,(∀σ' H',N σ' H'->∃m',m'<m/\W (i+1) m' σ' H')/\∀x H',(Ite K a).yld i H x H'->g x σ H' fun σ2 H2=>tb {D with nx:=N,ct:=N,bk:=D.nx} σ2 H2):=by
 refine⟨fun i m σ H=>m=xs.length-i/\i<=xs.length/\Pv i σ H,⟨xs.length,by simp,bO _,h0⟩,?_⟩
 rintro i m σ H ⟨rfl,hi,p⟩
 have hq:=hl i σ H hi p
 by_cases hlt:i<xs.length
 ·refine .inr ⟨⟨xs,xs[i],hq,by simp[hlt]⟩,Pv (i+1),fun σ' H' p'=>⟨xs.length-(i+1),by omega,rfl,hlt,p'⟩,fun x H' y=>?_⟩
  obtain⟨T,rfl,hT,hy⟩:=y
  obtain⟨x,hx,rfl⟩:=hy xs hq
  exact hs i x σ H T hx p hT
 ·have e:i=xs.length:=by omega
  subst e
  exact .inl ⟨⟨xs,hq,rfl⟩,hd σ H p⟩
noncomputable def num(m:Nat):List Nat:=(Nat.toDigits 10 m).map Char.toNat
section
variable{X:Cx}
theorem aJK:Cl1 X (.type "int") (fun xs H Q=>∃l:List Nat,xs=[.str (Tx l)]/\PySem.NumText.AllDigits l/\l≠[]/\l.length<=640/\Q (.int ((PySem.NumText.digitsVal l:Nat):Int)) H):=by
 refine⟨fun pins s σ H xs us Q I r h=>?_⟩
 obtain⟨l,rfl,h1,h2,h3,q⟩:=h
 obtain⟨u,rfl,t,rfl⟩:=acW r
 refine PySem.W.KIN.call_text (PySem.intText_digits (x:=Tx l) (by simpa using h1) (by simpa using h2) (by rw[abD];omega)) (by rw[abD];exact h3) ?_
 exact⟨.int _,H,I.tok _,⟨_,rfl⟩,by simpa using q⟩
theorem acF:Cl1 X (.type "str") (fun xs H Q=>∃n:Nat,xs=[.int n]/\n<10^500/\Q (.str (Tx (num n))) H):=by
 refine⟨fun pins s σ H xs us Q I r h=>?_⟩
 obtain⟨n,rfl,hn,q⟩:=h
 refine aoT pins s σ H _ us Q I r ⟨(n:Int),rfl,?_,?_⟩
 ·by_cases h0:n=0
  ·subst h0;decide
  ·have:n<2^1900:=aZ hn (by decide +kernel)
   have:=(Nat.log2_lt h0).mpr this
   show (n:Int).natAbs.log2<1920
   simp only[Int.natAbs_natCast]
   omega
 ·have e:PySem.Str.ofString (toString (n:Int))=Tx (num n):=by
   rw[←aBW (PySem.Str.ofString (toString (n:Int)))]
   exact congrArg (fun z=>Tx z) (PySem.W.KIN.signs_num n)
  show Q (.str (PySem.Str.ofString (toString (n:Int)))) H
  rw[e]
  exact q
end
end L2
namespace L2
open PySem PySem.Spec PyProof.Rows PySem.Builtin PySem.Builtin.Str
theorem ifT{b:Bool}{A B:Prop}(e:b=true)(h:A):if b=true then A else B:=by rw[if_pos e];exact h
theorem ifF{b:Bool}{A B:Prop}(e:b=false)(h:B):if b=true then A else B:=by rw[if_neg (by rw[e];exact a9)];exact h
theorem if2{b:Bool}{A B:Prop}(h1:b=true->A)(h2:b=false->B):if b=true then A else B:=by
 cases b
 ·exact ifF rfl (h2 rfl)
 ·exact ifT rfl (h1 rfl)
theorem aw1(a b:List Nat):decide (V.str (Tx a)=V.str (Tx b))=decide (a=b):=decide_eq_decide.mpr ⟨fun h=>Tx_inj.mp (V.str.inj h),fun h=>by rw[h]⟩
section
variable{X:Cx}{pos:Pos}
theorem eSx{z:Str}{j}(l:List Nat)(h:z=Tx l:=by decide +kernel):E X (.Constant (.str z) j pos) (tC (.str (Tx l))):=by
 subst h
 exact⟨awP⟩
end
noncomputable def afS(c:Nat):Bool:=decide (48<=c)&&decide (c<=57)
noncomputable def aDB:List Nat:=[48,49,50,51,52,53,54,55,56,57]
theorem axY(c:Nat):decide (c∈aDB)=afS c:=by
 unfold aDB afS
 rw[cQ,dU,bH,dU,dU]
 simp
 omega
noncomputable def aoS(l:List Nat):Bool:= !decide (l=[])&&l.all afS
noncomputable def isW(l:List Nat):Bool:=aoS l&&(decide (l=[48])|| !decide (l.headD 0=48))
noncomputable def dv(l:List Nat):Int:=((PySem.NumText.digitsVal l:Nat):Int)
noncomputable def aaT(lo hi:Int)(l:List Nat):Option Int:=if isW l=true then (if lo<=dv l/\dv l<=hi then some (dv l) else none) else none
noncomputable def oV:Option Int->V
 |none=>.non
 |some n=>.int n
noncomputable def aiJ(es:List (Option Int)):Option (Int×Int):=match es with
 |[some a]=>some (a,a)
 |[some a,some b]=>if b<a then none else some (a,b)
 |_=>none
noncomputable def aaV(lo hi:Int)(l:List Nat):Option (Int×Int):=if l=[42] then some (lo,hi) else aiJ ((spl 45 l).map (aaT lo hi))
@[irreducible] noncomputable def acU(a b s:Int):List Int:=(List.range (Builtin.Range.rangeSize a (b+1) s).toNat).map fun i:Nat=>a+(i:Int)*s
theorem ab6(a b s:Int):acU a b s=(List.range (Builtin.Range.rangeSize a (b+1) s).toNat).map fun i:Nat=>a+(i:Int)*s:=by rw[acU]
noncomputable def aiV(a b s:Int):Int:=abA (acU a b s)
noncomputable def abN(lo hi:Int)(r s:List Nat):Option Int:=
 match aaV lo hi r,aaT 1 99 s with
 |some (a,b),some st=>some (aiV a (if isW r=true then hi else b) st)
 |_,_=>none
noncomputable def aaJ(lo hi:Int)(l:List Nat):Option Int:=
 match spl 47 l with
 |[r,s]=>abN lo hi r s
 |_=>match aaV lo hi l with
  |some (a,b)=>some (aiV a b 1)
  |none=>none
theorem arO{l:List Nat}(h:isW l=true):PySem.NumText.AllDigits l/\l≠[]:=by
 unfold isW aoS at h
 rw[bH,bH] at h
 refine⟨fun c hc=>?_,fun e=>?_⟩
 ·have:=bW.mp h.1.2 c hc
  unfold afS at this
  rw[bH] at this
  exact⟨dQ this.1,dQ this.2⟩
 ·rw[dR e] at h
  exact absurd h.1.1 (by decide)
theorem ajR{a b s:Int}(hs:0<s):Builtin.Range.rangeSize a (b+1) s=if a<=b then (b-a) / s+1 else 0:=by
 unfold Builtin.Range.rangeSize
 rw[if_pos hs]
 by_cases c:a<=b
 ·rw[if_pos c,if_pos (by omega),show b+1-a-1=b-a by omega]
 ·rw[if_neg c,if_neg (by omega)]
theorem aoH{a b s z:Int}(hs:0<s):z∈acU a b s↔a<=z/\z<=b/\(z-a)%s=0:=by
 rw[ab6,bS,ajR hs]
 refine⟨fun ⟨i,hi,e⟩=>?_,fun ⟨h1,h2,h3⟩=>?_⟩
 ·subst e
  by_cases c:a<=b
  ·rw[if_pos c,cN] at hi
   have hq:(i:Int)<=(b-a) / s:=by
    have:0<=(b-a) / s:=c7 (by omega) (by omega)
    omega
   have hm:(i:Int)*s<=(b-a) / s*s:=Int.mul_le_mul_of_nonneg_right hq (by omega)
   have hd:(b-a) / s*s<=b-a:=Int.ediv_mul_le _ (by omega)
   have h0:0<=(i:Int)*s:=Int.mul_nonneg (by omega) (by omega)
   refine⟨by omega,by omega,?_⟩
   rw[show a+(i:Int)*s-a=(i:Int)*s by omega]
   exact Int.mul_emod_left _ _
  ·rw[if_neg c,cN] at hi
   exact absurd hi (by simp)
 ·rw[if_pos (by omega)]
  have hd:s*((z-a) / s)+(z-a)%s=z-a:=Int.mul_ediv_add_emod _ _
  rw[h3,Int.add_zero] at hd
  have h0:0<=(z-a) / s:=c7 (by omega) (by omega)
  have hle:(z-a) / s<=(b-a) / s:=Int.ediv_le_ediv hs (by omega)
  refine⟨((z-a) / s).toNat,cN.mpr (by omega),?_⟩
  rw[bF h0,Int.mul_comm]
  omega
theorem ac9{a b s:Int}(h0:0<=a)(h1:b<=1000)(hs:0<s):(Builtin.Range.rangeSize a (b+1) s).toNat<=1001/\Builtin.Range.rangeSize a (b+1) s=((Builtin.Range.rangeSize a (b+1) s).toNat:Int):=by
 have hz:=atR (a:=a) (b:=b+1) hs
 refine⟨?_,by omega⟩
 rw[ajR hs]
 split
 ·have:(b-a) / s<=b-a:=Int.ediv_le_self _ (by omega)
  omega
 ·decide
theorem ac3{a b s:Int}(h0:0<=a)(ha:a<=1000)(h1: -1<=b)(hb:b<=1000)(hs:0<s)(hs2:s<=1000):Builtin.Range.small a (b+1) s=true:=by
 have hl:=ac9 h0 hb hs
 have hz:=atR (a:=a) (b:=b+1) hs
 unfold Builtin.Range.small
 simp only[Builtin.Range.rangeFitsLong,bH,Bool.or_eq_true,dU,beq_iff_eq]
 refine⟨⟨⟨⟨?_,?_⟩,?_⟩,?_⟩,.inr ?_⟩
 ·exact⟨by omega,by omega⟩
 ·exact⟨by omega,by omega⟩
 ·exact⟨by omega,by omega⟩
 ·exact⟨by omega,by omega⟩
 ·rw[if_pos hs]
  simp only[bH,dU]
  exact⟨by omega,by omega⟩
end L2
namespace L2
open PySem PySem.Spec PyProof.Rows PySem.Builtin PySem.Builtin.Str
theorem apU{lo hi a:Int}{l:List Nat}(h:aaT lo hi l=some a):lo<=a/\a<=hi:=by
 unfold aaT at h
 split at h
 ·split at h
  ·rename_i c
   have:=bA h
   omega
  ·cases h
 ·cases h
theorem akV{lo hi a b:Int}{l:List Nat}(hle:lo<=hi)(h:aaV lo hi l=some (a,b)):(lo<=a/\a<=hi)/\lo<=b/\b<=hi:=by
 unfold aaV at h
 split at h
 ·cases h;omega
 ·have key:∀es:List (Option Int),(∀e∈es,∀x,e=some x->lo<=x/\x<=hi)->aiJ es=some (a,b)->(lo<=a/\a<=hi)/\lo<=b/\b<=hi:=by
   intro es hb h
   match es,hb,h with
   |[some x],hb,h=>
    have h:some (x,x)=some (a,b):=h
    cases h
    have:=hb _ (by simp) a rfl
    exact⟨this,this⟩
   |[some x,some y],hb,h=>
    have h:(if y<x then none else some (x,y))=some (a,b):=h
    split at h
    ·cases h
    ·cases h
     exact⟨hb (some a) (by simp) a rfl,hb (some b) (by simp) b rfl⟩
   |[],_,h=>cases h
   |[none],_,h=>cases h
   |[none,y],_,h=>cases h
   |[some x,none],_,h=>cases h
   |x::y::u::r,_,h=>cases x<;>cases y<;>cases h
  refine key _ (fun e he x hx=>?_) h
  obtain⟨w,_,rfl⟩:=bS.mp he
  exact apU hx
noncomputable def orM(ms:List Int):Int:=ms.foldl (fun a m=>Builtin.bitOr a m) 0
theorem aeS(ms:List Int)(m:Int):orM (ms++[m])=Builtin.bitOr (orM ms) m:=by unfold orM;rw[List.foldl_append];rfl
theorem aj9:∀(ms:List Int) (a:Int),0<=a->(∀m∈ms,0<=m)->0<=ms.foldl (fun a m=>Builtin.bitOr a m) a/\∀i,tb (ms.foldl (fun a m=>Builtin.bitOr a m) a) i=(tb a i||ms.any fun m=>tb m i)
 |[],a,h,_=>⟨h,fun i=>by simp⟩
 |m::ms,a,h,hm=>by
  have hp:=hm m (by simp)
  obtain⟨h1,h2⟩:=aj9 ms (Builtin.bitOr a m) (alC h hp) fun z hz=>hm z (by simp[hz])
  refine⟨h1,fun i=>?_⟩
  show tb (ms.foldl _ (Builtin.bitOr a m)) i=_
  rw[h2 i,apH h hp,cH,Bool.or_assoc]
theorem aeD{ms:List Int}(h:∀m∈ms,0<=m):0<=orM ms:=(aj9 ms 0 (aX 0) h).1
theorem adC{ms:List Int}(h:∀m∈ms,0<=m)(i:Nat):tb (orM ms) i=ms.any fun m=>tb m i:=by
 have:=(aj9 ms 0 (aX 0) h).2 i
 rw[aa4,Bool.false_or] at this
 exact this
noncomputable def ac8(lo hi:Int)(l:List Nat):List Int:=(spl 44 l).map fun w=>(aaJ lo hi w).getD 0
noncomputable def auG(lo hi:Int)(l:List Nat):Prop:=(spl 44 l).length<=40/\∀w∈spl 44 l,(aaJ lo hi w).isSome=true
theorem aeG:∀n:Nat,n<100->isW (num n)=true/\dv (num n)=(n:Int)/\((num n).all fun c=>afS c)=true/\(num n).length<=2:=by decide +kernel
theorem aa8{n c:Nat}(h:n<100)(hc:afS c=false):c∉num n:=fun hm=>by
 have:=bW.mp (aeG n h).2.2.1 c hm
 rw[hc] at this
 cases this
theorem aEH{n:Nat}(h:n<100):num n≠[42]:=fun e=>by
 have:=aa8 h (c:=42) (by decide)
 rw[e] at this
 exact this (by simp)
theorem ae3{n:Nat}{lo hi:Int}(h:n<100)(h1:lo<=n)(h2:(n:Int)<=hi):aaT lo hi (num n)=some (n:Int):=by
 obtain⟨a,b,_⟩:=aeG n h
 unfold aaT
 rw[if_pos a,b,if_pos ⟨h1,h2⟩]
theorem aD6{l:List Nat}{c:Nat}(hm:c∈l)(hc:afS c=false):isW l=false:=by
 cases e:isW l
 ·rfl
 ·unfold isW aoS at e
  rw[bH,bH] at e
  have:=bW.mp e.1.2 c hm
  rw[hc] at this
  cases this
theorem auH{n:Nat}{lo hi:Int}(h:n<100)(h1:lo<=n)(h2:(n:Int)<=hi):aaV lo hi (num n)=some ((n:Int),(n:Int)):=by
 unfold aaV
 rw[if_neg (aEH h),acZ 45 _ (aa8 h (by decide))]
 show aiJ [aaT lo hi (num n)]=_
 rw[ae3 h h1 h2]
 rfl
theorem atE{n m:Nat}{lo hi:Int}(h:n<100)(h':m<100)(h1:lo<=n)(h2:n<=m)(h3:(m:Int)<=hi):aaV lo hi (num n++45::num m)=some ((n:Int),(m:Int)):=by
 unfold aaV
 rw[if_neg (fun e=>by (have:45∈num n++45::num m:=(by simp));rw[e] at this;simp at this),ajJ 45 _ _ (aa8 h (by decide)),acZ 45 _ (aa8 h' (by decide))]
 show aiJ [aaT lo hi (num n),aaT lo hi (num m)]=_
 rw[ae3 h h1 (by omega),ae3 h' (by omega) h3]
 show (if (m:Int)<n then none else some ((n:Int),(m:Int)))=_
 rw[if_neg (by omega)]
theorem aqW{lo hi:Int}:aaV lo hi [42]=some (lo,hi):=by unfold aaV;rw[if_pos rfl]
theorem aj3{lo hi a b:Int}{r:List Nat}(hf:47∉r)(h:aaV lo hi r=some (a,b)):aaJ lo hi r=some (aiV a b 1):=by
 unfold aaJ
 rw[acZ 47 r hf,h]
theorem ak7{lo hi a b:Int}{r:List Nat}{s:Nat}(hf:47∉r)(h:aaV lo hi r=some (a,b))(hs:s<100)(hs1:1<=s):aaJ lo hi (r++47::num s)=some (aiV a (if isW r=true then hi else b) s):=by
 unfold aaJ
 rw[ajJ 47 r _ hf,acZ 47 _ (aa8 hs (by decide))]
 show abN lo hi r (num s)=_
 unfold abN
 rw[h,ae3 hs (by omega) (by omega)]
end L2
namespace L2
open PySem PySem.Spec PyProof.Rows PySem.Builtin PySem.Builtin.Str
theorem apM:∀{ws:List (List Nat)} {vs:List Value},Vals (ws.map fun q=>V.str (Tx q)) vs->StrsAre vs (ws.map Tx)
 |[],[],_=>.nil
 |[],_::_,h=>nomatch h
 |_::_,[],h=>nomatch h
 |w::r,v::vs,.cons h t=>by
  obtain⟨k,rfl⟩:=h
  exact .cons (Tx w) k (apM t)
theorem azP(c:Nat)(ws:List (List Nat)):Txt.join (Tx [c]) (ws.map Tx)=Tx (aa1 c ws):=by
 have e1:Txt.join (Tx [c]) (ws.map Tx)=Str.join (Tx [c]) (ws.map Tx):=StrLaws.glued_eq_join _ _
 have e2:=anG c (ws.map Tx)
 rw[cC] at e2
 have e3:ws.map ((fun x:Str=>x.cps.toList) ∘ Tx)=ws:=by
  have:∀l:List (List Nat),l.map ((fun x:Str=>x.cps.toList) ∘ Tx)=l:=fun l=>by
   induction l with
   |nil=>rfl
   |cons a r ih=>rw[bD,ih];simp
  exact this ws
 rw[e3] at e2
 rw[e1,←aBW (Str.join (Tx [c]) (ws.map Tx)),e2]
theorem amO(c:Nat):∀ws:List (List Nat),(ws.map (·.length)).sum+ws.length=(aa1 c ws).length+(if ws=[] then 0 else 1)
 |[]=>rfl
 |[p]=>by simp[aa1]
 |p::q::r=>by
  have ih:=amO c (q::r)
  rw[if_neg (by simp)] at ih ⊢
  simp only[bD,List.sum_cons,bU,aa1,aW] at ih ⊢
  omega
section
variable{X:Cx}
noncomputable def aA7(K:FG):V->List V->Hp->VK->Prop:=fun x vs H Q=>∃(c:Nat) (p:Addr) (ws:List (List Nat)),x=.str (Tx [c])/\vs=[.ref p]/\SqL K H p (ws.map fun q=>V.str (Tx q))/\(aa1 c ws).length<=1000000/\Q (.str (Tx (aa1 c ws))) H
theorem ay9:MtR X "str.join" (aA7 X.K):=by
 intro pins s σ H x xs v us Q I rx rv h
 obtain⟨c,p,ws,rfl,rfl,hq,hz,q⟩:=h
 obtain⟨u,rfl,r1⟩:=acW rv
 cases r1
 obtain⟨t,rfl⟩:=rx
 obtain⟨its,rv2,pl,hz2⟩:=I.list hq
 have hj:=amO c ws
 have hw:((ws.map Tx).map (·.length)).sum+(ws.map Tx).length<=1048576:=by
  rw[cC,aU]
  have e:ws.map ((fun x:Str=>x.length) ∘ Tx)=ws.map (·.length):=List.map_congr_left fun a _=>abD a
  rw[e]
  split at hj<;>omega
 refine join_listW pl.isList (ys:=ws.map Tx) (by simpa using apM rv2) (by rw[abD];show 1<=16;decide) hw fun t' k=>?_
 refine⟨.str (Tx (aa1 c ws)),H,I.kept (t':=k) fun _ _ e=>e,⟨t',by rw[azP]⟩,q⟩
theorem at9{o e:Expr}{to te:TE}{apos cpos:Pos}(ho:E X o to)(he:E X e te)(hbase:attributeBase o "join" X.env (eval o X.env)=eval o X.env:=by rfl)
  (hfew:((backTo cpos (starEach [e] X.env)).all (fun x=> !x.1)&&(backToKw cpos (keywordEach [] X.env)).all (fun x=>x.1.isSome)&&decide (([e]:List Expr).length+([]:List Keyword).length+(if ([]:List Keyword).isEmpty then 0 else 1)<30))=true:=by rfl)
  (hline:(apos.endLine==cpos.line)=true:=by rfl) (hs:starEach [e] X.env=(false,eval e X.env)::starEach [] X.env:=by rfl) (hplain:(backTo cpos (starEach [] X.env)).any (·.1)=false:=by rfl):
  E X (.Call (.Attribute o "join" apos) [e] [] cpos) (tBM X.K "str" (aA7 X.K) to (aeF te alG)):=
 ⟨aqD PySem.F.plainAttrs_str PySem.F.slot_str_join PySem.F.type_str_join ay9 ho.h (acT he.h aeQ hs) hbase hfew hline hs hplain⟩
theorem aLO:Op2 X (binaryOp .Add) (fun x y H Q=>∃(a b:Addr) (xs ys:List V),x=.ref a/\y=.ref b/\SqL X.K H a xs/\SqL X.K H b ys/\xs.length+ys.length<=sizeLine/\∀p,H p=none->Q (.ref p) (upd H p (.lst (xs++ys)))):=by
 refine⟨fun pins s σ H x y v u Q I rx ry h=>?_⟩
 obtain⟨a,b,xs,ys,rfl,rfl,ha,hb,hz,q⟩:=h
 cases rx
 cases ry
 obtain⟨i1,r1,p1,z1⟩:=I.list ha
 obtain⟨i2,r2,p2,z2⟩:=I.list hb
 obtain⟨⟨cls,dd,data,sl⟩,ho,hc,n,hd⟩:=p1.isList
 obtain⟨⟨cls2,dd2,data2,sl2⟩,ho2,hc2,n2,hd2⟩:=p2.isList
 simp only at hc hd hc2 hd2
 subst hc hd hc2 hd2
 have l1:=r1.length
 have l2:=r2.length
 refine concat_meets ⟨_,ho,rfl⟩ ⟨_,ho2,rfl⟩ noFill_list_add seq_list_add PySem.F.slot_list_add PySem.F.entry_list_add (PySem.F.args_list_add_2 _ _) (list_addW a b _ _ n n2 dd dd2 sl sl2 (by simp only[bG];omega)) ⟨ho,ho2,?_⟩
 refine⟨.ref s.heap.objs.size,upd H s.heap.objs.size (.lst (xs++ys)),I.laid (t':=s.toks) (fun b u e=>a8 _ e) (aS _) ?_,rfl,q _ (I.hok.fresh (aS _))⟩
 exact⟨by rw[aW];exact hz,i1++i2,0,r1.append r2,by simpa using bK _ rfl⟩
end
noncomputable def awO(J:It)(k:Nat)(js:List Nat)(g:TG)(σ:St)(tt:TT)(te:TE)(Q:VK)(H1:Hp):Prop:=∀D,H1 D=none->∃W:Nat->Nat->Hp->Prop,(∃m,W 0 m (upd H1 D (.lst [])))/\∀i m H2,W i m H2->
 (J.stop i H2/\Q (.ref D) H2)∨(J.go i H2/\∀v H3,J.yld i H2 v H3->∀τ:St,τ.length=k->g v (τ++aaZ js σ) H3 fun σ2 H3'=>(∃τ':St,τ'.length=k/\σ2=τ'++aaZ js σ)/\tt σ2 H3' fun b H4=>if b=true then
  te σ2 H4 fun y H5=>∃ys,H5 D=some (.lst ys)/\ys.length<sizeLine/\∃m',m'<m/\W (i+1) m' (upd H5 D (.lst (ys++[y])))
  else ∃m',m'<m/\W (i+1) m' H4)
noncomputable def awK(wi:TI)(k:Nat)(js:List Nat)(g:TG)(tt:TT)(te:TE):TE:=fun σ H Q=>wi σ H fun J H1=>awO J k js g σ tt te Q H1
section
variable{X:Cx}{elt iter tg:Expr}{xs:List Str}{y:Str}{py pos spos:Pos}{ifs:List Expr}{scope:Scope}{cl:List (Str×Addr)}{N':List Str}{js:List Nat}{tt:TT}{te:TE}{g:TG}{wi:TI}
theorem arC{pins:List (Addr×Obj)}{σ:St}{H:Hp}{s s4:Shared}{fp:List Addr}{C:Addr}{m4:Str->Option Value}(hcl:Clos X scope cl)(hN:js.map (fun j=>X.N[j]?)=N'.map some)
  (hk:N'.all (fun y=>(X.env.kindOf y==some .cell)||(X.env.kindOf y==some .free))=true) (hf:N'.all (fun y=>scope.names.lookup y==some .free)=true)
  (I:Inv X pins σ H s) (hfp:∀b∈fp,adB X pins H b/\b<s.heap.objs.size) (hC:C=s.heap.objs.size) (ho:s4.os=s.os) (hg:s4.gens=s.gens) (hkeep:∀b o,s.heap.get? b=some o->s4.heap.get? b=some o) (hn:s4.heap.Ns C m4):
  Inv (aaM X (xs++N') scope cl C fp pins s H) [] (List.replicate xs.length none++aaZ js σ) H s4:=by
 have hne:∀b o,s.heap.get? b=some o->b≠C:=fun b o e=>by rw[hC];exact aY (aV e)
 refine⟨⟨I.ok.mod,hcl.kind,I.ok.glob,I.ok.blt,Nat.le_of_eq hC.symm,fun y z c h1 h2=>I.ok.inj y z c (hcl.sub y c h1) (hcl.sub z c h2),fun y hy=>hcl.has y (amK (fun z=>hcl.nocell _ (PySem.mem_of_lookup z) rfl) (by rw[←adH];exact hy)),fun y c h _=>(nomatch h),I.ok.hd,I.ok.frames,.inl rfl,fun b hb=>⟨?_,fun y c e=>(hfp b hb).1.2.2.2.2.1 y c (hcl.sub y c e)⟩,
  I.bs,bI I.ok.bsz I.sz,fun b o e hb=>?_,fun b hb hz=>?_,I.stack,I.stkFree⟩,ho,by rw[hg];exact I.bare,Un.kept hkeep,⟨m4,hn,fun i y v h1 h2 h3=>?_⟩,fun y c e=>?_,?_,fun y c e=>I.freeC y c (hcl.sub y c e),fun p hp=>?_,I.hok.kept hkeep,?_⟩
 ·rw[hC];exact aY (hfp b hb).2
 ·rcases (hfp b hb).1.2.2.2.1 with z | z
  ·exact I.ok.noex b o e z
  ·exact absurd (aZ (aV e) (bI I.ok.bsz z)) (cE _)
 ·rcases bB.mp (I.stkSub b hz) with z | z
  ·exact (hfp b hb).1.2.1 z
  ·exact (hfp b hb).1.2.2.1 z
 ·by_cases hi:i<xs.length
  ·rw[List.getElem?_append_left (by rw[cY];exact hi),List.getElem?_replicate,if_pos hi] at h2
   exact nomatch h2
  ·obtain⟨j0,rfl⟩:∃j0,i=xs.length+j0:=⟨i-xs.length,by omega⟩
   have h1:N'[j0]? =some y:=by
    have h1:(xs++N')[xs.length+j0]? =some y:=h1
    rw[List.getElem?_append_right (Nat.le_add_right _ _),Nat.add_sub_cancel_left] at h1
    exact h1
   have h2:(aaZ js σ)[j0]? =some (some v):=by rw[List.getElem?_append_right (by rw[cY];exact Nat.le_add_right _ _),cY,Nat.add_sub_cancel_left] at h2;exact h2
   generalize j0=i at h1 h2
   have hy:y∈N':=bP h1
   have q:(js.map (fun j=>X.N[j]?))[i]? =some (some y):=by rw[hN,bE,h1];rfl
   rw[bE] at q
   cases ej:js[i]? with
   |none=>rw[ej] at q;cases q
   |some j=>
    rw[ej] at q
    have q:X.N[j]? =some y:=bA q
    unfold aaZ at h2
    rw[bE,ej] at h2
    have h2:(σ[j]?).getD none=some v:=bA h2
    have h2:σ[j]? =some (some v):=by
     cases e:σ[j]? with
     |none=>rw[e] at h2;cases h2
     |some o=>rw[e] at h2;exact congrArg some h2
    have kk:=bW.mp hk y hy
    have kk:X.env.kindOf y=some .cell∨X.env.kindOf y=some .free:=by simpa using kk
    have ff:=bW.mp hf y hy
    have ff:scope.names.lookup y=some .free:=by simpa using ff
    obtain⟨m,_,hl⟩:=I.loc
    obtain⟨u,r,l⟩:=hl j y v q h2 (by rcases kk with z | z;exact .inr (.inl z);exact .inr (.inr z))
    refine⟨u,r,.inr ⟨agE ff,?_⟩⟩
    obtain⟨c,hc⟩:=hcl.has y ff
    rcases l with ⟨z,_⟩ | ⟨_,c',e',cell⟩
    ·rcases kk with k | k<;>(rw[k] at z;cases z)
    ·rw[hcl.sub y c hc] at e'
     cases e'
     exact⟨c,hc,cell.keeps hkeep⟩
 ·obtain⟨v,q⟩:=I.cell y c (hcl.sub y c e)
  exact⟨v,q.keeps hkeep⟩
 ·show H C=none
  rw[hC]
  exact I.hok.fresh (aS _)
 ·have hp:p∈X.pn++pins:=by
   have hp:p∈(X.pn++pins)++[]:=hp
   rwa [cI] at hp
  obtain⟨e,n,ne,nf,d⟩:=I.pin p hp
  refine⟨hkeep _ _ e,n,hne _ _ e,fun z=>?_,d⟩
  rcases bB.mp (I.stkSub p.1 z) with z | z
  ·exact ne z
  ·exact nf z
 ·show (List.replicate xs.length none++aaZ js σ).length=(xs++N').length
  rw[aW,aW,cY]
  have q:=congrArg List.length hN
  rw[aU,aU] at q
  unfold aaZ
  rw[aU,q]
theorem au7{pins:List (Addr×Obj)}{σ σ':St}{H H':Hp}{s s':Shared}{fp:List Addr}{C:Addr}(I:Inv X pins σ H s)(hfp:∀b∈fp,adB X pins H b)(J:Inv (aaM X (xs++N') scope cl C fp pins s H) [] σ' H' s'):Inv X pins σ H' s':=
 I.call' (ch:=fp) J.os J.base J.hok J.bare fun b hb=>⟨(hfp b hb).2.2.2.1,(hfp b hb).2.1,(hfp b hb).2.2.2.2.1,(hfp b hb).2.2.2.2.2⟩
theorem apJ{pins:List (Addr×Obj)}{σ:St}{H:Hp}{s:Shared}{Q:VK}{RR:Value->Addr->Result->Shared->Prop}{J:It}{fp:List Addr}{it:Addr}{tn:Nat->Heap->Prop}
  (hcl:Clos X scope cl) (hnd:(xs++N').Nodup) (hN:js.map (fun j=>X.N[j]?)=N'.map some)
  (hk:N'.all (fun y=>(X.env.kindOf y==some .cell)||(X.env.kindOf y==some .free))=true) (hf:N'.all (fun y=>scope.names.lookup y==some .free)=true) (hc:X.calm=true)
  (hg:∀(C:Addr) (ex:List Addr) (pins:List (Addr×Obj)) (s:Shared) (H:Hp),PG (aaM X (xs++N') scope cl C ex pins s H) tg g)
  (ht:∀(C:Addr) (ex:List Addr) (pins:List (Addr×Obj)) (s:Shared) (H:Hp),PF (aaM X (xs++N') scope cl C ex pins s H) ifs tt)
  (he:∀(C:Addr) (ex:List Addr) (pins:List (Addr×Obj)) (s:Shared) (H:Hp),PE (aaM X (xs++N') scope cl C ex pins s H) elt te)
  (I:Inv X pins σ H s) (T:Turn X.prog X.w X.K (tg) J fp it tn) (st:tn 0 s.heap) (hfp:∀b∈fp,adB X pins H b)
  (q:∀D,H D=none->∃W:Nat->Nat->Hp->Prop,(∃m,W 0 m (upd H D (.lst [])))/\∀i m H2,W i m H2->
   (J.stop i H2/\Q (.ref D) H2)∨(J.go i H2/\∀v H3,J.yld i H2 v H3->∀τ:St,τ.length=xs.length->g v (τ++aaZ js σ) H3 fun σ2 H3'=>(∃τ':St,τ'.length=xs.length/\σ2=τ'++aaZ js σ)/\tt σ2 H3' fun b H4=>if b=true then
    te σ2 H4 fun y H5=>∃ys,H5 D=some (.lst ys)/\ys.length<sizeLine/\∃m',m'<m/\W (i+1) m' (upd H5 D (.lst (ys++[y])))
    else ∃m',m'<m/\W (i+1) m' H4))
  (hRR:∀(D C:Addr) (s':Shared) (H':Hp) (m:Str->Option Value),Inv X pins σ H' s'->H' C=none->C≠X.env.locals->X.s₀.heap.objs.size<=C->(∀y c,X.env.cells.lookup y=some c->c≠C)->(∀p∈X.pn++pins,p.1≠C)->s'.heap.Ns C m->Q (.ref D) H'->RR (.ref D) C (.ok .next) s'):
  wpAny (model X.prog X.w) X.A (newList []) (fun acc s₃=>wpAny (model X.prog X.w) X.A (newFunctionEnv scope X.env.globals cl [] X.env.qual none .none (some X.env)) (fun cenv s₄=>
   codeAny (model X.prog X.w) X.A (.compStart (.ListComp elt [⟨tg,iter,ifs,0⟩] scope pos) 0 (.ref it) acc {cenv with scope:=relabel scope X.env}) (RR acc cenv.locals) s₄) X.xe s₃) X.xe s:=by
 refine wpAny_newObj_type ?_
 have hD:H s.heap.objs.size=none:=I.hok.fresh (aS _)
 have I3:Inv X pins σ (upd H s.heap.objs.size (.lst [])) {s with heap:=s.heap.push {cls:=.type "list",dict:=none,data:=.seq ([]:List Value).toArray} }:=I.lnew (its:=[]) (t':=s.toks) .nil (bO _)
 have hfp3:∀b∈fp,adB X pins (upd H s.heap.objs.size (.lst [])) b/\b<(s.heap.push {cls:=.type "list",dict:=none,data:=.seq ([]:List Value).toArray}).objs.size:=fun b hb=>by
  obtain⟨o,ho,_⟩:=T.obj 0 _ st b hb
  have hlt:=aV ho
  obtain⟨f0,f1⟩:=hfp b hb
  exact⟨⟨by rw[aaF (aY hlt)];exact f0,f1⟩,by rw[Heap.size_push];exact Nat.lt_succ_of_lt hlt⟩
 have st3:tn 0 (s.heap.push {cls:=.type "list",dict:=none,data:=.seq ([]:List Value).toArray}):=T.keep _ _ _ st fun b _ o e=>a8 _ e
 obtain⟨W,⟨m0,w0⟩,turn⟩:=q s.heap.objs.size hD
 generalize hs3:({s with heap:=s.heap.push {cls:=.type "list",dict:=none,data:=.seq ([]:List Value).toArray} }:Shared)=s3 at I3 ⊢
 have hh3:s.heap.push {cls:=.type "list",dict:=none,data:=.seq ([]:List Value).toArray}=s3.heap:=by rw[←hs3]
 rw[hh3] at hfp3 st3
 generalize s.heap.objs.size=D at I3 hfp3 w0 turn hD ⊢
 generalize upd H D (.lst [])=H3 at I3 hfp3 w0
 refine wpAny_newFunctionEnv hcl.nocell (by intro y hy;simp at hy) (fun h₁ hns₁ hsb₁=>?_) hcl.kind
 have hkeep:∀b o,s3.heap.get? b=some o->h₁.get? b=some o:=fun b o e=>hsb₁.extBut b o (aY (aV e)) (a8 _ e)
 have J4:Inv (aaM X (xs++N') scope cl s3.heap.objs.size fp pins s3 H3) [] (List.replicate xs.length none++aaZ js σ) H3 {s3 with heap:=h₁,toks:=s3.toks+([]:List (Str×Value)).length}:=
  arC hcl hN hk hf I3 hfp3 rfl rfl rfl hkeep hns₁
 have st4:tn 0 h₁:=T.keep _ _ _ st3 fun b _ o e=>hkeep b o e
 have cell':∀{s':Shared} {σ':St} {H':Hp},Inv (aaM X (xs++N') scope cl s3.heap.objs.size fp pins s3 H3) [] σ' H' s'->Q (.ref D) H'->RR (.ref D) s3.heap.objs.size (.ok .next) s':=fun {s' σ' H'} J hq=>by
  obtain⟨m,hn,_⟩:=J.loc
  refine hRR D _ s' H' m (au7 I3 (fun b hb=>(hfp3 b hb).1) J) J.free (Nat.ne_of_gt I3.lt) I3.sz (fun y c e z=>?_) (fun p hp z=>?_) hn hq
  ·obtain⟨v,k⟩:=I3.cell y c e
   exact absurd k.lt (by rw[z];exact cE _)
  ·exact absurd (aV (I3.pin p hp).1) (by rw[z];exact cE _)
 have fpX:∀{H':Hp},(∀b∈fp,H' b=none)->∀b∈fp,adB (aaM X (xs++N') scope cl s3.heap.objs.size fp pins s3 H3) [] H' b:=fun {H'} hn b hb=>by
  obtain⟨⟨f0,f1,f2,f3,f4,f5⟩,flt⟩:=hfp3 b hb
  refine⟨hn b hb,aY flt,fun z=>?_,.inl hb,fun y c e=>f4 y c (hcl.sub y c e),fun p hp=>?_⟩
  ·rcases bB.mp (I3.stkSub b z) with z | z
   ·exact f1 z
   ·exact f2 z
  ·have hp:p∈(X.pn++pins)++[]:=hp
   rw[cI] at hp
   exact f5 p hp
 have loop:∀s₄:Shared,s₄={s3 with heap:=h₁,toks:=s3.toks+([]:List (Str×Value)).length}->
   codeAny (model X.prog X.w) X.A (.compLoop (.ListComp elt [⟨tg,iter,ifs,0⟩] scope pos) 0 (.ref it) (.ref D) (compEnvC scope cl s3.heap.objs.size X.env)) (RR (.ref D) s3.heap.objs.size) s₄:=by
  rintro s₄ rfl
  refine akK rfl (fun n s'=>∃i τ H',τ.length=xs.length/\Inv (aaM X (xs++N') scope cl s3.heap.objs.size fp pins s3 H3) [] (τ++aaZ js σ) H' s'/\tn i s'.heap/\(∀b∈fp,H' b=none)/\W i n H') ?_ m0 ⟨0,List.replicate xs.length none,H3,cY,J4,st4,fun b hb=>(hfp3 b hb).1.1,w0⟩
  rintro n s5 ⟨i,τ,H5,hτ,J5,st5,fr5,w5⟩
  rcases turn i n H5 w5 with ⟨stop,qn⟩ | ⟨go,step⟩
  ·refine dN (T.done (aaM X (xs++N') scope cl s3.heap.objs.size fp pins s3 H3) rfl rfl rfl hc i [] s5 _ H5 (fun _ _=>False) J5 (fpX fr5) st5 stop) (fun r s6 ⟨hr,J6⟩=>?_) fun _ _ z=>z.elim
   subst hr
   exact cell' J6 qn
  ·refine dN (T.item (aaM X (xs++N') scope cl s3.heap.objs.size fp pins s3 H3) rfl rfl rfl hc i [] s5 _ H5 (fun _ _=>False) J5 (fpX fr5) st5 go) (fun r s6 ⟨u,hr,h6⟩=>?_) fun _ _ z=>z.elim
   subst hr
   refine dN h6 (fun _ s6' h6'=>?_) fun _ _ z=>z.elim
   obtain⟨v,H6,J6,r6,y6,st6,fr6⟩:=h6'
   clear h6
   have J6':=J6.pinned (fpX fr6) (T.obj _ _ st6)
   show wpAny _ _ (assign tg _ u) _ _ _
   refine dN (hg _ _ _ _ _ _ s6' _ H6 v u _ J6' r6 (step v H6 y6 τ hτ)) (fun _ s7 h7=>?_) fun _ _ z=>z.elim
   obtain⟨_,H7,J7,⟨τ',hτ',rfl⟩,q7⟩:=h7
   have again:∀{σ8:St} {H8:Hp} {s8:Shared},Inv (aaM X (xs++N') scope cl s3.heap.objs.size fp pins s3 H3) ([]++af0 fp s6'.heap) σ8 H8 s8->tn (i+1) s8.heap/\∀b∈fp,H8 b=none:=fun {σ8 H8 s8} J8=>by
    refine⟨T.keep _ _ _ st6 fun b hb o e=>(J8.pin (b,o) (bN _ (bN _ (abX hb e)))).1,fun b hb=>?_⟩
    obtain⟨o,e,d⟩:=T.obj _ _ st6 b hb
    exact (J8.pin (b,o) (bN _ (bN _ (abX hb e)))).2.1
   refine dN (ht _ _ _ _ _ _ s7 _ H7 _ J7 q7) (fun ok s8 ⟨H8,J8,q8⟩=>?_) fun _ _ z=>z.elim
   cases ok with
   |false=>
    obtain⟨m',hm,w8⟩:=(show ∃m',m'<n/\W (i+1) m' H8 from q8)
    obtain⟨a1,a2⟩:=again J8
    exact⟨m',hm,i+1,τ',H8,hτ',J8.unpinned,a1,a2,w8⟩
   |true=>
    refine dN (he _ _ _ _ _ _ s8 _ H8 _ J8 q8) (fun y s9 ⟨z,H9,J9,r9,ys,hys,hlen,m',hm,w9⟩=>?_) fun _ _ z=>z.elim
    refine dN (ag6 (X:=aaM X (xs++N') scope cl s3.heap.objs.size fp pins s3 H3) _ s9 _ H9 (.ref D) [z] (.ref D) [y] (fun _ H10=>H10=upd H9 D (.lst (ys++[z]))) J9 rfl (.cons r9 .nil) ⟨D,ys,z,rfl,rfl,hys,hlen,rfl⟩) (fun _ s10 ⟨_,H10,J10,_,e10⟩=>?_) fun _ _ z=>z.elim
    subst e10
    obtain⟨a1,a2⟩:=again J10
    exact⟨m',hm,i+1,τ',_,hτ',J10.unpinned,a1,a2,w9⟩
 exact codeAny_compStart_list (loop _ rfl) (T.self _ 0 _ _ _ st4 (loop _ rfl))
theorem ayU(hcl:Clos X scope cl)(hnd:(xs++N').Nodup)(hN:js.map (fun j=>X.N[j]?)=N'.map some)
  (hk:N'.all (fun y=>(X.env.kindOf y==some .cell)||(X.env.kindOf y==some .free))=true) (hf:N'.all (fun y=>scope.names.lookup y==some .free)=true) (hc:X.calm=true)
  (hi:PI X (tg) iter wi)
  (hg:∀(C:Addr) (ex:List Addr) (pins:List (Addr×Obj)) (s:Shared) (H:Hp),PG (aaM X (xs++N') scope cl C ex pins s H) tg g)
  (ht:∀(C:Addr) (ex:List Addr) (pins:List (Addr×Obj)) (s:Shared) (H:Hp),PF (aaM X (xs++N') scope cl C ex pins s H) ifs tt)
  (he:∀(C:Addr) (ex:List Addr) (pins:List (Addr×Obj)) (s:Shared) (H:Hp),PE (aaM X (xs++N') scope cl C ex pins s H) elt te)
  (hs:∀x,foldedSetIterable iter X.env x=pure x:=by intro _;rfl):
  PE X (.ListComp elt [⟨tg,iter,ifs,0⟩] scope pos) (awK wi xs.length js g tt te):=by
 intro pins s σ H Q I h
 rw[eval_ListComp]
 refine wpAny_comprehension_free (use:=none) rfl hs hcl.is hcl.kind hcl.names (thn (hi pins s σ H _ I h) fun xv s₁ h₁=>thn h₁ fun itv s₂ h₂=>?_)
 obtain⟨it,fp,tn,J,H2,rfl,I2,T,st,hfp,q⟩:=h₂
 refine apJ (RR:=fun acc C=>compPost (model X.prog X.w) X.A X.xe none (EP X pins σ Q) acc C) hcl hnd hN hk hf hc hg ht he I2 T st hfp q ?_
 intro D C s' H' m I' hC0 hCL hCs hCc hCp hn hq
 refine⟨m,hn,fun h' sb=>⟨.ref D,H',?_,rfl,hq⟩⟩
 exact I'.turned (t':=s'.toks) (fun b o hb e=>(sb.2 b hb).trans e) hC0 hCL (.inr hCs) hCc hCp
theorem aCL(xs N':List Str)(js:List Nat)(hi:Il X (tg) iter wi)
  (hg:∀(cl:List (Str×Addr)) (C:Addr) (ex:List Addr) (pins:List (Addr×Obj)) (s:Shared) (H:Hp),Gt (aaM X (xs++N') scope cl C ex pins s H) tg g)
  (ht:∀(cl:List (Str×Addr)) (C:Addr) (ex:List Addr) (pins:List (Addr×Obj)) (s:Shared) (H:Hp),Fs (aaM X (xs++N') scope cl C ex pins s H) ifs tt)
  (he:∀(cl:List (Str×Addr)) (C:Addr) (ex:List Addr) (pins:List (Addr×Obj)) (s:Shared) (H:Hp),E (aaM X (xs++N') scope cl C ex pins s H) elt te)
  (hcl:∃cl,Clos X scope cl:=by exact aoC rfl rfl rfl rfl) (hnd:(xs++N').Nodup:=by decide +kernel) (hN:js.map (fun j=>X.N[j]?)=N'.map some:=by rfl)
  (hk:N'.all (fun y=>(X.env.kindOf y==some .cell)||(X.env.kindOf y==some .free))=true:=by rfl) (hf:N'.all (fun y=>scope.names.lookup y==some .free)=true:=by rfl) (hc:X.calm=true:=by rfl)
  (hs:∀x,foldedSetIterable iter X.env x=pure x:=by intro _;rfl):E X (.ListComp elt [⟨tg,iter,ifs,0⟩] scope pos) (awK wi xs.length js g tt te):=by
 obtain⟨cl,hcl⟩:=hcl
 exact⟨ayU hcl hnd hN hk hf hc hi.h (fun C ex pins s H=>(hg cl C ex pins s H).h) (fun C ex pins s H=>(ht cl C ex pins s H).h) (fun C ex pins s H=>(he cl C ex pins s H).h) hs⟩
end
section
variable{js:List Nat}{σ:St}{tt:TT}{te:TE}{Q:VK}{H1:Hp}
end
theorem gTuc{X:Cx}{pos:Pos}{K:FG}{es:List Expr}{k n:Nat}{t:TGs}(h:Gts X es t)(hK:X.K=K:=by rfl)(hc:X.calm=true:=by rfl)(hn:(assignEach es X.env).length=n:=by rfl)(hst:(assignEach es X.env).findIdx? (·.1)=none:=by rfl):Gt X (.Tuple es k pos) (ay1 K n t):=by
 subst hK
 exact gTu h hc hn hst
section
variable{X:Cx}
end
section
variable{X:Cx}{elt iter tg:Expr}{xs:List Str}{y:Str}{py pos spos:Pos}{ifs:List Expr}{scope:Scope}{cl:List (Str×Addr)}{N':List Str}{js:List Nat}{tt:TT}{te:TE}{g:TG}{wi:TI}
end
end L2
namespace L2
open PySem PySem.Spec PyProof.Rows PySem.SeqAt
section
variable{X:Cx}
end
section
variable{M:Model}{A:Around}{E:Value->Shared->Prop}{s:Shared}{f:Obj->Prop}{B:Heap}{env:Env}{outer l:List Env}{L e:Addr}{fl:Value}{Q:Unit->Shared->Prop}
end
theorem ObjOk.at{P:Program}{w:World}{H:Hp}{h:Heap}{a:Addr}{o:HO}(x:ObjOk P w H h a o):∃ob,h.get? a=some ob:=by
 induction o with
 |lst xs=>obtain⟨_,_,_,_,e⟩:=x;exact⟨_,e⟩
 |tup xs=>obtain⟨_,_,_,ob,e,_⟩:=x;exact⟨_,e⟩
 |dK kvs=>obtain⟨_,_,_,_,ob,_,_,e,_⟩:=x;exact⟨_,e⟩
 |dT kvs=>obtain⟨_,_,_,_,ob,_,_,e,_⟩:=x;exact⟨_,e⟩
 |set S n=>obtain⟨ob,_,_,_,e,_⟩:=x;exact⟨_,e⟩
 |ins C dx fs=>obtain⟨_,_,_,e,_⟩:=x;exact⟨_,e⟩
 |own y=>exact x
 |xd fs=>obtain⟨_,⟨ob,_,_,e,_⟩,_⟩:=x;exact⟨_,e⟩
 |rng lo hi=>obtain⟨_,_,_,e⟩:=x;exact⟨_,e⟩
 |frz ob u ih=>exact⟨_,x.1⟩
 |tbl ps=>exact⟨_,x⟩
 |met f y=>exact⟨_,x⟩
 |ext φ=>exact x.2.1
noncomputable def Ex(C:Addr)(d:Option Addr)(b:Bool)(o:Obj):Prop:=o.cls=.ref C/\o.dict=d/\∃vs,o.data=.fields vs/\(b=true->vs[2]? =some .none)
noncomputable def wc(C:Addr):Value:=.int C 0
noncomputable def cv(C:Addr):Bool->Value
 |true=>.ref C
 |false=>wc C
noncomputable def Fly(g h:Heap)(H:Hp)(a C:Addr)(d:Option Addr)(b:Bool):Prop:=
 H a=none/\g.get? a=none/\∃(o:Obj) (vs:Array Value) (T:Addr) (oT:Obj) (ts:Array Value),(h.get? a=some o/\o.data=.fields vs/\vs[1]? =some (.ref T)/\Ex C d b o)/\
  (h.get? T=some oT/\oT.data=.fields ts/\ts[3]? =some .none)/\(H T=none/\g.get? T=none)/\T≠a
noncomputable def CX1(P:Program)(w:World):CXT:=fun outer H s E e s'=>
 ∃a C d b H',e=.ref a/\s'.os=s.os/\AllBare s'.gens/\Un (frs outer) [] H H' s.heap s'.heap/\HOk P w H' s'.heap/\Fly s.heap s'.heap H' a C d b/\E (cv C b) d H'
section
variable{P:Program}{w:World}{K:FG}{mg:Str->Option Value}{base:Heap}{N:List Str}{qual:Str}{scope:Scope}{f:Addr}{cd:Value}{A:Around}{outer:List Env}{s0:Shared}{H0:Hp}{E:XK}
end
noncomputable abbrev aI8:List Value:=[.type "ValueError",.type "Exception",.type "BaseException",.type "object"]
structure Xc(K:FG)(mg:Str->Option Value)(x:Str)(C:Addr):Prop where
 m:mg x=some (.ref C)
 n:PySem.W.nsIn K mainGlobals x=some (some (.ref C))
 q:PySem.W.excIn K C aI8 "ValueError.__new__"=true
theorem Mod.top{K:FG}{mg:Str->Option Value}{base:Heap}(m:Mod K mg base)(p:Program):∃loose mb,PySem.W.TopRead p loose mg mb base:=by
 obtain⟨mb,b1,b2⟩:=m.blt
 obtain⟨o,es,ep,ho,hd,hk,hf⟩:=id m.glob
 refine⟨es.toList.filterMap fun e=>match e.key with | .str y _=>some y | _=>none,mb,m.glob,b1,m.nolimit,b2,fun x _ hx _ _ _=>?_⟩
 rw[←hf]
 have none_:es.find? (fun e=>e.key.isStr x)=none:=by
  rw[Array.find?_eq_none]
  intro e he hs
  obtain⟨y,t,ek⟩:=hk e he
  refine hx (List.mem_filterMap.mpr ⟨e,by simpa using he,?_⟩)
  rw[ek] at hs ⊢
  have:y=x:=by simpa [Value.isStr] using hs
  rw[this]
 show (es.find? fun e=>e.key.isStr x).map (·.val)=none
 rw[none_]
 rfl
theorem Xc.own{K:FG}{mg:Str->Option Value}{base:Heap}{x:Str}{C:Addr}(c:Xc K mg x C)(m:Mod K mg base)(p:Program):OwnCls x C aI8 "ValueError.__new__" mg base:=by
 obtain⟨loose,mb,T⟩:=m.top p
 exact PySem.W.own_of_in m.kin T c.n c.q
section
variable{X:Cx}{E:XK}{x:Str}{C:Addr}{e:Expr}{es:List Expr}{t:TA}{np cpos pos:Pos}
end
section
variable{P:Program}{w:World}{K:FG}{mg:Str->Option Value}{base:Heap}{N:List Str}{qual:Str}{scope:Scope}{f:Addr}{cd:Value}{A:Around}{outer:List Env}{s0:Shared}{H0:Hp}{E:XK}
end
section
variable{P:Program}{w:World}{K:FG}{mg:Str->Option Value}{base:Heap}{x:Str}{st:Stmt}{ps N:List Str}{k:Nat}{sp:Sp}
end
noncomputable def XP(X:Cx)(pins:List (Addr×Obj))(σ:St)(E:XK)(e:Value)(s':Shared):Prop:=∃s1 H1,Inv X pins σ H1 s1/\CX1 X.prog X.w X.stack H1 s1 E e s'
noncomputable abbrev TX:=St->Hp->VK->XK->Prop
noncomputable abbrev TB:=Ends->St->Hp->XK->Prop
section
variable{X:Cx}{k k':Nat}{ps:List Str}{sp:Sp}{x:Str}{e:Expr}{es:List Expr}{tA:TA}{p pos:Pos}{t:TX}
end
section
variable{X:Cx}{pins:List (Addr×Obj)}{σ:St}{H:Hp}{s:Shared}
end
noncomputable def xo(a C:Addr)(d:Option Addr)(b:Bool):HO:=.ext fun h=>∃o,h.get? a=some o/\Ex C d b o
section
variable{X:Cx}{body suite:List Stmt}{b0:Stmt}{tb:TB}{th:Addr->TS}{cx n:Str}{np hpos pos:Pos}{CF:Addr}
end
section
variable{X:Cx}{E:XK}{x:Str}{C:Addr}{e:Expr}{es:List Expr}{tA:TA}{np cpos pos p:Pos}{k k':Nat}{ps:List Str}{sp:Sp}
end
noncomputable def AtC(a C:Addr)(h:Heap):Prop:=∃o vs,h.get? a=some o/\o.cls=.ref C/\o.data=.fields vs
theorem AtC.ty{M:Model}{a C:Addr}{h:Heap}(x:AtC a C h):PySem.W.Looks M h (typeOf (.ref a)) (.ref C):=by
 obtain⟨o,vs,h1,h2,_⟩:=x
 exact h2▸(PySem.W.Looks.ld h1).andThen .now
section
open PySem.W
variable{prog:Program}{w:World}{A:Around}{E:Value->Shared->Prop}{s:Shared}{K:FG}{a C:Addr}
open Builtin Builtin.ObjectAttr Builtin.Getset_descriptor in
open Builtin Builtin.ObjectAttr in
end
section
variable{X:Cx}{body suite:List Stmt}{b0:Stmt}{tb:TB}{th:Addr->TS}{cx:Str}{np hpos pos:Pos}{CF:Addr}
end
section
variable{prog:Program}{w:World}{A:Around}{E:Value->Shared->Prop}{s:Shared}{e C a:Addr}{d:Option Addr}
end
section
variable{prog:Program}{w:World}{A:Around}{E:Value->Shared->Prop}{s:Shared}{env:Env}{e C a:Addr}{d:Option Addr}
end
section
variable{P:Program}{w:World}{K:FG}{mg:Str->Option Value}{base:Heap}{N:List Str}{qual:Str}{scope:Scope}{f:Addr}{cd:Value}{A:Around}{outer:List Env}{s0:Shared}{H0:Hp}{E:XK}
end
section
variable{X:Cx}{E:XK}{x:Str}{C a:Addr}{e:Expr}{es:List Expr}{t:TA}{np cpos pos p2:Pos}{j:Nat}
end
noncomputable def tDi:TE:=fun _ H Q=>∀p,H p=none->Q (.ref p) (upd H p (.dK []))
section
variable{X:Cx}{pos:Pos}{o i:Expr}{to ti:TE}
theorem Inv.bigM{pins:List (Addr×Obj)}{σ:St}{H:Hp}{s:Shared}(I:Inv X pins σ H s):sysModules<s.heap.objs.size:=by
 have h:mainGlobals<s.heap.objs.size:=(I.mod.glob.keeps I.bk).lt
 exact Nat.lt_trans (by decide) h
theorem eDi:E X (.Dict [] [] pos) tDi:=⟨fun pins s σ H Q I h=>wpAny_Dict_empty ⟨.ref s.heap.objs.size,_,I.laid (a:=s.heap.objs.size) (o:=.dK []) (t':=s.toks) (fun _ _ q=>a8 _ q) (aS _)
 ⟨bO _,beq_eq_false_iff_ne.mpr (Ne.symm (aY I.bigM)),[],.nil,Heap.DictOf.new s.heap⟩,rfl,h _ (I.hok.fresh (aS _))⟩⟩
theorem gSb(ho:E X o to)(hi:E X i ti)(ha:∀v,assign (.Subscript o i pos) X.env v=(do
   let ov ←holding [v] (eval o X.env)
   let iv ←holding [v,ov] (eval i X.env)
   standAt pos
   holding [v,ov,iv] (setItem ov iv v)
   release [v,ov,iv] []):=by intro _;rfl):Gt X (.Subscript o i pos) (aI0 to ti aBM):=⟨aCA ho.h hi.h ayT ha⟩
end
theorem KindV.same{K:FG}{H H':Hp}{v:V}{k:Kd}(h:KindV K H v k)(s:Same H H'):KindV K H' v k:=by
 cases v with
 |ref a=>
  rcases h with ⟨e,xs,h⟩ | ⟨e,xs,h⟩ | ⟨e,xs,h⟩
  ·exact .inl ⟨e,xs,s.seq h⟩
  ·refine .inr (.inl ⟨e,xs,?_⟩)
   rcases h with (h | ⟨o,h⟩) | h
   ·exact .inl (.inl (s _ _ h))
   ·exact .inl (.inr ⟨o,s _ _ h⟩)
   ·exact .inr h
  ·exact .inr (.inr ⟨e,xs,s _ _ h⟩)
 |int i=>exact h
 |bl b=>exact h
 |str x=>exact h
 |non=>exact h
 |byt b=>exact h
 |flt b=>exact h
 |ty n=>exact h
section
variable{X:Cx}
theorem aBJ:Op2 X (compareOp .IsNot) (fun x y H Q=>∃b c:Bool,x=.bl b/\y=.bl c/\Q (.bl (!decide (b=c))) H):=by
 refine⟨fun pins s σ H x y v u Q I rx ry h=>?_⟩
 obtain⟨b,c,rfl,rfl,q⟩:=h
 cases rx
 cases ry
 have e:compareOp .IsNot (.bool b) (.bool c)=pure (.bool (!decide (b=c))):=by cases b<;>cases c<;>rfl
 exact wpAny_of_eq e ⟨.bl _,H,I,rfl,q⟩
end
section
variable{js:List Nat}{σ:St}{tt:TT}{te:TE}{Q:VK}{H1:Hp}
end
noncomputable def ae5(l:List Nat)(lo hi:Option Int):List Nat:=(l.drop (HT.sIx l.length 0 lo)).take (HT.sIx l.length l.length hi-HT.sIx l.length 0 lo)
theorem aBK(v:Option Int)(n d:Nat):(match v with | none=>(d:Int) | some i=>max 0 (min (if i<0 then i+(n:Int) else i) (n:Int)))=((HT.sIx n d v:Nat):Int):=by
 cases v with
 |none=>rfl
 |some i=>
  show max 0 (min (if i<0 then i+(n:Int) else i) (n:Int))=(((if i<0 then (i+(n:Int)).toNat else min i.toNat n):Nat):Int)
  by_cases h:i<0
  ·rw[if_pos h,if_pos h];omega
  ·rw[if_neg h,if_neg h];omega
theorem awH(lo hi:Option Int)(n:Nat):Builtin.Str.strSliceIndices lo hi 1 n=sliceRange ((HT.sIx n 0 lo:Nat):Int) ((HT.sIx n n hi:Nat):Int) 1:=by
 unfold Builtin.Str.strSliceIndices
 simp only[show ((1:Int)>0)=True from by simp,if_true]
 rw[←aBK lo n 0,←aBK hi n n]
 cases lo<;>cases hi<;>rfl
theorem aq9(a b:Nat):sliceRange (a:Int) (b:Int) 1=(List.range (b-a)).map fun k=>a+k:=by
 rcases Nat.lt_or_ge a b with c | c
 ·have up:(a:Int)<b:=by omega
  have many:(((b:Int)-a+1-1) / 1).toNat=b-a:=by rw[Int.ediv_one];omega
  have e:∀k:Nat,((a:Int)+1*(k:Int)).toNat=a+k:=fun k=>by omega
  simp only[sliceRange,gt_iff_lt,Int.one_pos,if_true,up,many,e]
 ·have no:¬((a:Int)<b):=by omega
  have z:b-a=0:=by omega
  simp only[sliceRange,gt_iff_lt,Int.one_pos,if_true,no,if_false,z,List.range_zero,List.map_nil]
  rfl
theorem avV(l:List Nat)(n a:Nat):((List.range n).map fun k=>a+k).filterMap (fun i=>(Tx l).cps[i]?)=(l.drop a).take n:=by
 rw[List.filterMap_map]
 induction n with
 |zero=>rw[List.take_zero];rfl
 |succ n ih=>
  have one:[n].filterMap ((fun i=>(Tx l).cps[i]?) ∘ fun k=>a+k)=(l[a+n]?).toList:=by
   show List.filterMap _ [n]=_
   cases e:l[a+n]? <;>simp[e]
  rw[List.range_succ,dF,ih,one,List.take_add_one,List.getElem?_drop]
theorem aDH(l:List Nat)(lo hi:Option Int):(Builtin.Str.strSliceIndices lo hi 1 l.length).filterMap (fun i=>(Tx l).cps[i]?)=ae5 l lo hi:=by
 rw[awH,aq9,avV]
 rfl
theorem au5(l:List Nat)(lo hi:Option Int)(h:(Builtin.Str.strSliceIndices lo hi 1 l.length).length=l.length):ae5 l lo hi=l:=by
 rw[awH,aq9,aU,dE] at h
 have h1:=HT.sIx_le l.length l.length (aS _) hi
 have e1:HT.sIx l.length 0 lo=0∨l.length=0:=by omega
 unfold ae5
 rcases e1 with e | e
 ·rw[e]
  have:HT.sIx l.length l.length hi=l.length:=by omega
  rw[this]
  simp
 ·have:l=[]:=List.eq_nil_of_length_eq_zero e
  subst this
  simp
theorem agJ(l:List Nat)(lo hi:Option Int):(ae5 l lo hi).length<=l.length:=by
 unfold ae5
 rw[cR,List.length_drop]
 omega
section
variable{X:Cx}
noncomputable def rSlX:V->Option Int->Option Int->Hp->VK->Prop:=fun x lo hi H Q=>∃l:List Nat,x=.str (Tx l)/\l.length<=sizeLine/\Q (.str (Tx (ae5 l lo hi))) H
theorem slX:Sls X rSlX:=by
 refine⟨fun pins s σ H x v vl vu lo hi sl Q I rx hs pl pu h=>?_⟩
 obtain⟨l,rfl,hz,q⟩:=h
 obtain⟨t,rfl⟩:=rx
 refine⟨"str",_,PySem.F.slot_str_getitem.lookup,typeIs_str _ _ _,?_⟩
 obtain⟨o,ho,hc,hd⟩:=hs
 have fin:∀(a b:Option (Int×Tok)),o.data=.fields #[partValue a,partValue b,.none]->a.map (·.1)=lo->b.map (·.1)=hi->wpAny (model X.prog X.w) X.A (getItem (.str (Tx l) t) (.ref sl)) (EP X pins σ Q) X.xe s:=fun a b hd ea eb=>by
  refine wpAny_getItem_str_slice (l:=a) (u:=b) (st:=none) ⟨o,ho,hc,hd⟩ rfl ?_
  have ep:slicePicked (Tx l) a b none=Builtin.Str.strSliceIndices lo hi 1 l.length:=by unfold slicePicked;rw[ea,eb,abD];rfl
  unfold sliceMade
  rw[ep]
  split
  ·next hw=>
   have hw2:(Builtin.Str.strSliceIndices lo hi 1 l.length).length=l.length:=by
    have:=(Bool.and_eq_true_iff.mp hw).2
    rw[abD] at this
    exact beq_iff_eq.mp this
   show EP X pins σ Q _ s
   rw[au5 l lo hi hw2] at q
   exact⟨.str (Tx l),H,I,⟨t,rfl⟩,q⟩
  ·rw[aDH]
   exact⟨by rw[abD];exact bI (agJ l lo hi) hz,⟨.str (Tx (ae5 l lo hi)),H,I.tok _,⟨_,rfl⟩,q⟩⟩
 cases pl with
 |none=>
  cases pu with
  |none=>exact fin none none hd rfl rfl
  |int j tj=>exact fin none (some (j,tj)) hd rfl rfl
 |int i ti=>
  cases pu with
  |none=>exact fin (some (i,ti)) none hd rfl rfl
  |int j tj=>exact fin (some (i,ti)) (some (j,tj)) hd rfl rfl
theorem aB6(m:Nat):num m≠[]:=fun e=>Nat.toDigits_ne_nil (List.map_eq_nil_iff.mp e)
end
section
variable{prog:Program}{w:World}{A:Around}{E:Value->Shared->Prop}{s:Shared}{I:Addr}{fp wr:List Addr}{G:Array GenState->Array GenState->Prop}{n:Nat}{P:Nat->Value->Prop}{St:Nat->Shared->Prop}
end
section
variable{X:Cx}{o e:Expr}{to te:TE}{p rpos apos cpos:Pos}
end
theorem ao9{X:Cx}{e:Expr}{t u:TE}(h:E X e t)(h':E X e u):E X e (fun σ H Q=>t σ H Q∨u σ H Q):=
 ⟨fun pins s σ H Q I z=>z.elim (fun z=>h.h pins s σ H Q I z) fun z=>h'.h pins s σ H Q I z⟩
section
variable{X:Cx}
end
section
variable{κ:Type}[DecidableEq κ]
noncomputable def acI(kvs:List (κ×V))(k:κ):Option V:=(kvs.find? fun kv=>decide (kv.1=k)).map (·.2)
noncomputable def afX(kvs:List (κ×V))(k:κ)(v:V):List (κ×V):=
 if (kvs.any fun kv=>decide (kv.1=k))=true then kvs.map (fun kv=>if kv.1=k then (kv.1,v) else kv) else kvs++[(k,v)]
theorem abL{p:κ×V}{r:List (κ×V)}{k:κ}(e:p.1=k):acI (p::r) k=some p.2:=by simp[acI,c8,e]
theorem abJ{p:κ×V}{r:List (κ×V)}{k:κ}(e:¬p.1=k):acI (p::r) k=acI r k:=by simp[acI,c8,e]
theorem agU(k:κ):∀kvs:List (κ×V),(kvs.any fun kv=>decide (kv.1=k))=(acI kvs k).isSome
 |[]=>rfl
 |p::r=>by
  rw[cH]
  by_cases e:p.1=k
  ·simp only[abL e,dR e,Bool.true_or,Option.isSome_some]
  ·rw[abJ e,dW e,Bool.false_or];exact agU k r
theorem ap3(k j:κ)(y:V):∀kvs:List (κ×V),acI (kvs.map fun kv=>if kv.1=k then (kv.1,y) else kv) j=(acI kvs j).map fun x=>if j=k then y else x
 |[]=>rfl
 |p::r=>by
  have ih:=ap3 k j y r
  rw[bD]
  by_cases h:p.1=k
  ·rw[if_pos h]
   by_cases e:p.1=j
   ·rw[abL (p:=(p.1,y)) e,abL e,c5,if_pos (e.symm.trans h)]
   ·rw[abJ (p:=(p.1,y)) e,abJ e,ih]
  ·rw[if_neg h]
   by_cases e:p.1=j
   ·rw[abL (p:=p) e,abL e,c5,if_neg (fun z=>h (e.trans z))]
   ·rw[abJ (p:=p) e,abJ e,ih]
theorem am8(k j:κ)(y:V):∀kvs:List (κ×V),acI kvs k=none->acI (kvs++[(k,y)]) j=if j=k then some y else acI kvs j
 |[],_=>by
  by_cases e:k=j
  ·rw[if_pos e.symm];exact abL (p:=(k,y)) e
  ·rw[if_neg (fun z=>e z.symm)];exact abJ (p:=(k,y)) e
 |p::r,hn=>by
  rw[List.cons_append]
  have hk:¬p.1=k:=fun z=>by rw[abL z] at hn;cases hn
  rw[abJ hk] at hn
  have ih:=am8 k j y r hn
  by_cases e:p.1=j
  ·rw[abL e,abL e,if_neg (fun z=>hk (e.trans z))]
  ·rw[abJ e,abJ e,ih]
theorem apR(kvs:List (κ×V))(k j:κ)(y:V):acI (afX kvs k y) j=if j=k then some y else acI kvs j:=by
 unfold afX
 by_cases a:(kvs.any fun kv=>decide (kv.1=k))=true
 ·rw[if_pos a,ap3]
  rw[agU] at a
  by_cases e:j=k
  ·obtain⟨x,hx⟩:=cX.mp a
   rw[if_pos e,e,hx,c5,if_pos rfl]
  ·rw[if_neg e]
   cases acI kvs j with
   |none=>rfl
   |some x=>rw[c5,if_neg e]
 ·rw[if_neg a]
  refine am8 k j y kvs ?_
  rw[agU] at a
  cases q:acI kvs k with
  |none=>rfl
  |some x=>rw[q] at a;exact (a rfl).elim
theorem aeM(kvs:List (κ×V))(k:κ)(v:V):(afX kvs k v).length<=kvs.length+1:=by
 unfold afX
 split
 ·rw[aU];omega
 ·rw[aW,bU,List.length_nil];omega
theorem RelO.isSome_eq{o:Option V}{u:Option Value}(r:RelO o u):o.isSome=u.isSome:=by
 cases o with
 |none=>cases u with
  |none=>rfl
  |some _=>exact (show False from r).elim
 |some _=>cases u with
  |none=>exact (show False from r).elim
  |some _=>rfl
theorem KV.val{kvs:List (κ×V)}{vs:List (κ×Value)}(r:KV kvs vs)(k:κ):RelO (acI kvs k) (valueAt vs k):=by
 unfold KV at r
 induction r with
 |nil=>exact True.intro
 |@cons p q ps qs h t ih=>
  obtain⟨h1,h2⟩:=h
  by_cases e:p.1=k
  ·have e':q.1=k:=h1.symm.trans e
   have b:valueAt (q::qs) k=some q.2:=by simp[valueAt,c8,e']
   rw[abL e,b];exact h2
  ·have e':¬q.1=k:=fun z=>e (h1.trans z)
   have b:valueAt (q::qs) k=valueAt qs k:=by simp[valueAt,c8,e']
   rw[abJ e,b];exact ih
theorem KV.any{kvs:List (κ×V)}{vs:List (κ×Value)}(r:KV kvs vs)(k:κ):(kvs.any fun kv=>decide (kv.1=k))=vs.any fun kv=>decide (kv.1=k):=by
 unfold KV at r
 induction r with
 |nil=>rfl
 |cons h t ih=>rw[cH,cH,ih,h.1]
theorem KV.repl{kvs:List (κ×V)}{vs:List (κ×Value)}(r:KV kvs vs)(k:κ){y:V}{u:Value}(ry:RelV y u):
  KV (kvs.map fun kv=>if kv.1=k then (kv.1,y) else kv) (vs.map fun kv=>if kv.1=k then (kv.1,u) else kv):=by
 unfold KV at r ⊢
 induction r with
 |nil=>exact .nil
 |@cons p q ps qs h t ih=>
  rw[bD,bD]
  refine .cons ?_ ih
  obtain⟨h1,h2⟩:=h
  by_cases e:p.1=k
  ·rw[if_pos e,if_pos (h1.symm.trans e)];exact⟨h1,ry⟩
  ·rw[if_neg e,if_neg (fun z=>e (h1.trans z))];exact⟨h1,h2⟩
theorem KV.put{kvs:List (κ×V)}{vs:List (κ×Value)}(r:KV kvs vs)(k:κ){y:V}{u:Value}(ry:RelV y u):KV (afX kvs k y) (stored vs k u):=by
 unfold afX stored
 rw[r.any k]
 by_cases e:(vs.any fun kv=>decide (kv.1=k))=true
 ·rw[if_pos e,if_pos e];exact r.repl k ry
 ·rw[if_neg e,if_neg e];exact Paired.snoc r ⟨rfl,ry⟩
theorem KV.length{kvs:List (κ×V)}{vs:List (κ×Value)}(r:KV kvs vs):kvs.length=vs.length:=Paired.length r
end
theorem ap6{P:Program}{w:World}{k:Key}{u:Value}(r:RelV (kV k) u):(aa6 P w).is k u=true:=by
 cases k with
 |inl i=>obtain⟨t,e⟩:=(show ∃t,u=Value.int i t from r);subst e;exact aqG P w i t
 |inr x=>obtain⟨t,e⟩:=(show ∃t,u=Value.str x t from r);subst e;exact apQ P w x t
theorem ab8{P:Program}{w:World}:∀{ks:List Key} {us:List Value},Vals (ks.map kV) us->ItemsAre (aa6 P w) ks us
 |[],_,r=>by rw[List.map_nil] at r;cases r;exact .nil
 |k::ks,_,r=>by
  rw[bD] at r
  cases r with
  |cons h t=>exact .cons (ap6 h) (ab8 t)
noncomputable abbrev KT(H:Hp):List (List Key×V)->List (List Key×Addr×Value)->Prop:=Paired fun p q=>p.1=q.1/\H q.2.1=some (.tup (p.1.map kV))/\RelV p.2 q.2.2
theorem KT.val{H:Hp}{kvs:List (List Key×V)}{xs:List (List Key×Addr×Value)}(r:KT H kvs xs)(k:List Key):RelO (acI kvs k) ((atKey xs k).map (·.2)):=by
 induction r with
 |nil=>exact True.intro
 |@cons p q ps qs h t ih=>
  obtain⟨h1,_,h2⟩:=h
  by_cases e:p.1=k
  ·have e':q.1=k:=h1.symm.trans e
   have b:atKey (q::qs) k=some q.2:=by simp[atKey,c8,e']
   rw[abL e,b];exact h2
  ·have e':¬q.1=k:=fun z=>e (h1.trans z)
   have b:atKey (q::qs) k=atKey qs k:=by simp[atKey,c8,e']
   rw[abJ e,b];exact ih
theorem KT.repl{H:Hp}{kvs:List (List Key×V)}{xs:List (List Key×Addr×Value)}(r:KT H kvs xs)(k:List Key){y:V}{u:Value}(ry:RelV y u):
  KT H (kvs.map fun kv=>if kv.1=k then (kv.1,y) else kv) (xs.map (putAt k u)):=by
 induction r with
 |nil=>exact .nil
 |@cons p q ps qs h t ih=>
  rw[bD,bD]
  refine .cons ?_ ih
  obtain⟨h1,h2,h3⟩:=h
  unfold putAt
  by_cases e:p.1=k
  ·rw[if_pos e,if_pos (h1.symm.trans e)];exact⟨h1,h2,ry⟩
  ·rw[if_neg e,if_neg (fun z=>e (h1.trans z))];exact⟨h1,h2,h3⟩
theorem KT.put{H:Hp}{kvs:List (List Key×V)}{xs:List (List Key×Addr×Value)}(r:KT H kvs xs)(k:List Key){b:Addr}{y:V}{u:Value}(hb:H b=some (.tup (k.map kV)))(ry:RelV y u):
  KT H (afX kvs k y) (storedH xs k b u):=by
 have e:(kvs.any fun kv=>decide (kv.1=k))=(atKey xs k).isSome:=by
  rw[agU,(r.val k).isSome_eq,Option.isSome_map]
 unfold afX storedH
 rw[e]
 by_cases q:(atKey xs k).isSome=true
 ·rw[if_pos q,if_pos q];exact r.repl k ry
 ·rw[if_neg q,if_neg q];exact Paired.snoc r ⟨rfl,hb,ry⟩
theorem KT.keeps{H H':Hp}{kvs:List (List Key×V)}{xs:List (List Key×Addr×Value)}(r:KT H kvs xs)(ht:∀b ys,H b=some (.tup ys)->H' b=some (.tup ys)):KT H' kvs xs:=
 Paired.mapP r fun _ _ z=>⟨z.1,ht _ _ z.2.1,z.2.2⟩
section
variable{P:Program}{w:World}{H:Hp}{h:Heap}{a:Addr}
theorem aA1{u:HO}(ok:HOk P w H h)(e:Rd H a u):ObjOk P w H h a u:=e.ok ok
theorem auP{kvs:List (Key×V)}(ok:HOk P w H h)(e:Rd H a (.dK kvs)):kvs.length<=sizeLine/\(a==sysModules)=false/\∃vs,KV kvs vs/\h.DictOf (aa6 P w) a vs:=
 show ObjOk P w H h a (.dK kvs) from aA1 ok e
theorem aID{kvs:List (Key×V)}(ok:HOk P w H h)(e:H a=some (.dK kvs)):kvs.length<=sizeLine/\(a==sysModules)=false/\∃vs,KV kvs vs/\h.DictOf (aa6 P w) a vs:=auP ok (.inl e)
theorem aoN{ks:List Key}(ok:HOk P w H h)(e:H a=some (.tup (ks.map kV))):(tupleKind (aa6 P w)).is h ks a:=by
 obtain⟨_,its,r,o,h1,h2,n,h3⟩:=(show ObjOk P w H h a (.tup (ks.map kV)) from ok a _ e)
 exact⟨o,its.toArray,n,h1,h2,h3,by simpa using ab8 r⟩
theorem at5{kvs:List (List Key×V)}(ok:HOk P w H h)(e:Rd H a (.dT kvs)):kvs.length<=sizeLine/\(a==sysModules)=false/\
  ∃xs,KT H kvs xs/\h.DictOfH (tupleKind (aa6 P w)) a xs:=by
 obtain⟨z,y,xs,r,o,es,ep,h1,h2,h3,h4,h5⟩:=(show ObjOk P w H h a (.dT kvs) from aA1 ok e)
 refine⟨z,y,xs,r,o,es,ep,h1,h2,h3,h4,fun x hx=>?_,h5⟩
 have all:∀{l:List (List Key×V)} {m:List (List Key×Addr×Value)},KT H l m->∀x∈m,(tupleKind (aa6 P w)).is h x.1 x.2.1:=by
  intro l m q
  induction q with
  |nil=>intro x hx;exact nomatch hx
  |@cons p q ps qs hq t ih=>
   intro x hx
   rcases bB.mp hx with e | hx
   ·subst e
    exact aoN ok (by rw[←hq.1];exact hq.2.1)
   ·exact ih x hx
 exact all r x hx
theorem aLU{kvs:List (List Key×V)}(ok:HOk P w H h)(e:H a=some (.dT kvs)):kvs.length<=sizeLine/\(a==sysModules)=false/\
  ∃xs,KT H kvs xs/\h.DictOfH (tupleKind (aa6 P w)) a xs:=at5 ok (.inl e)
end
noncomputable def DGet(H:Hp)(a:Addr)(y:V)(r:Option V):Prop:=
 (∃kvs k,Rd H a (.dK kvs)/\y=kV k/\r=acI kvs k)∨∃kvs k b,Rd H a (.dT kvs)/\y=.ref b/\H b=some (.tup (k.map kV))/\r=acI kvs k
noncomputable def DPut(H:Hp)(a:Addr)(y v:V)(H':Hp):Prop:=
 (∃kvs k,H a=some (.dK kvs)/\y=kV k/\kvs.length<sizeLine/\H'=upd H a (.dK (afX kvs k v)))∨
 ∃kvs k b,H a=some (.dT kvs)/\y=.ref b/\H b=some (.tup (k.map kV))/\kvs.length<sizeLine/\H'=upd H a (.dT (afX kvs k v))
theorem DGet.k{H:Hp}{a:Addr}{kvs:List (Key×V)}{k:Key}(e:H a=some (.dK kvs)):DGet H a (kV k) (acI kvs k):=.inl ⟨kvs,k,.inl e,rfl,rfl⟩
theorem DGet.t{H:Hp}{a b:Addr}{kvs:List (List Key×V)}{k:List Key}(e:H a=some (.dT kvs))(eb:H b=some (.tup (k.map kV))):DGet H a (.ref b) (acI kvs k):=.inr ⟨kvs,k,b,.inl e,rfl,eb,rfl⟩
theorem DPut.k{H:Hp}{a:Addr}{kvs:List (Key×V)}{k:Key}{v:V}(e:H a=some (.dK kvs))(hl:kvs.length<sizeLine):DPut H a (kV k) v (upd H a (.dK (afX kvs k v))):=.inl ⟨kvs,k,e,rfl,hl,rfl⟩
theorem DPut.t{H:Hp}{a b:Addr}{kvs:List (List Key×V)}{k:List Key}{v:V}(e:H a=some (.dT kvs))(eb:H b=some (.tup (k.map kV)))(hl:kvs.length<sizeLine):
  DPut H a (.ref b) v (upd H a (.dT (afX kvs k v))):=.inr ⟨kvs,k,b,e,rfl,eb,hl,rfl⟩
section
variable{X:Cx}{pins:List (Addr×Obj)}{σ:St}{H:Hp}{s:Shared}{a:Addr}{y v:V}{u r:Value}{o:Option V}{A:Around}{E:Value->Shared->Prop}
theorem avK{Q:Value->Shared->Prop}(hu:A.units+1<cLine)(I:Inv X pins σ H s)(g:DGet H a y (some v))(ry:RelV y u)(h:∀w' s',Inv X pins σ H s'->RelV v w'->Q w' s'):
  wpAny (model X.prog X.w) A (getItem (.ref a) u) Q E s:=by
 rcases g with ⟨kvs,k,e,ey,l⟩ | ⟨kvs,k,b,e,ey,eb,l⟩
 ·subst ey
  obtain⟨z,hd,vs,rel,dd⟩:=auP I.hok e
  obtain⟨w',hw,rw'⟩:=RelO.some_of (v:=v) (o:=valueAt vs k) (by rw[l];exact rel.val k)
  exact wpAny_getItem_of (ap6 ry) dd.mapOf hw (h w' _ (I.tok _) rw')
 ·subst ey
  cases (show u=Value.ref b from ry)
  obtain⟨z,hd,xs,rel,dd⟩:=at5 I.hok e
  obtain⟨w',hw,rw'⟩:=RelO.some_of (v:=v) (o:=(atKey xs k).map (·.2)) (by rw[l];exact rel.val k)
  obtain⟨p,hp,hp2⟩:=Option.map_eq_some_iff.mp hw
  refine wpAny_getItem_heap (tupleKind_room_in1 hu) (aoN I.hok eb) dd hp ?_
  rw[hp2]
  exact h w' _ (I.tok _) rw'
theorem aAC{Q:Value->Shared->Prop}(hu:A.units+1<cLine)(I:Inv X pins σ H s)(g:DGet H a y o)(ry:RelV y u)(h:∀s',Inv X pins σ H s'->Q (.bool (!o.isSome)) s'):
  wpAny (model X.prog X.w) A (compareOp .NotIn u (.ref a)) Q E s:=by
 rcases g with ⟨kvs,k,e,ey,l⟩ | ⟨kvs,k,b,e,ey,eb,l⟩
 ·subst ey
  obtain⟨z,hd,vs,rel,dd⟩:=auP I.hok e
  refine wpAny_notIn_of (ap6 ry) hd dd.mapOf ?_
  rw[←(rel.val k).isSome_eq,←l]
  exact h _ (I.tok _)
 ·subst ey
  cases (show u=Value.ref b from ry)
  obtain⟨z,hd,xs,rel,dd⟩:=at5 I.hok e
  refine wpAny_notIn_heap (tupleKind_room_in1 hu) (aoN I.hok eb) hd dd ?_
  have q:=(rel.val k).isSome_eq
  rw[Option.isSome_map] at q
  rw[←q,←l]
  exact h _ (I.tok _)
theorem auI{h':Heap}{t':Nat}{ob:HO}(I:Inv X pins σ H s)(mu:Mut (H a))(hs:Heap.SameBut a s.heap h')(he:∃q,h'.get? a=some q)(new:ObjOk X.prog X.w (upd H a ob) h' a ob):
  Inv X pins σ (upd H a ob) {s with heap:=h',toks:=t'}:=
 I.write (x:=a) (e:=a) mu (.inl rfl) (fun b q hb z=>(hs.2 b hb).trans z) he new
theorem aD5{P:Program}{w:World}{H':Hp}{h':Heap}{kvs:List (Key×V)}{vs:List (Key×Value)}(z:kvs.length<=sizeLine)(hd:(a==sysModules)=false)(rel:KV kvs vs)(dd:h'.DictOf (aa6 P w) a vs):
  ObjOk P w H' h' a (.dK kvs):=⟨z,hd,vs,rel,dd⟩
theorem av4{H':Hp}{Q:Unit->Shared->Prop}(hu:A.units+1<cLine)(I:Inv X pins σ H s)(g:DPut H a y v H')(ry:RelV y u)(rv:RelV v r)(h:∀s',Inv X pins σ H' s'->Q () s'):
  wpAny (model X.prog X.w) A (setItem (.ref a) u r) Q E s:=by
 rcases g with ⟨kvs,k,e,ey,l,eH⟩ | ⟨kvs,k,b,e,ey,eb,l,eH⟩
 ·subst ey eH
  obtain⟨z,hd,vs,rel,dd⟩:=aID I.hok e
  have hz:vs.length<=sizeLine:=by rw[←rel.length];exact z
  have hl:(afX kvs k v).length<=sizeLine:=by have:=aeM kvs k v;omega
  refine wpAny_setItem_pairs (hsz:=hz) (ap6 ry) dd fun h' dd' hs=>h _ ?_
  have he:∃q,h'.get? a=some q:=let ⟨q,_,_,hq,_⟩:=dd';⟨q,hq⟩
  exact auI I (by rw[e];exact True.intro) hs he (aD5 hl hd (rel.put k rv) dd')
 ·subst ey eH
  cases (show u=Value.ref b from ry)
  obtain⟨z,hd,xs,rel,dd⟩:=aLU I.hok e
  have hz:xs.length<=sizeLine:=by rw[←Paired.length rel];exact z
  have hl:(afX kvs k v).length<=sizeLine:=by have:=aeM kvs k v;omega
  refine wpAny_setItem_heap (hsz:=hz) (tupleKind_room_in1 hu) (aoN I.hok eb) dd fun h' dd' hs=>h _ ?_
  obtain⟨q,es,ep,hq,h2,h3,h4,_,h5⟩:=dd'
  refine auI I (by rw[e];exact True.intro) hs ⟨q,hq⟩ ⟨hl,hd,_,(rel.put k eb rv).keeps fun c ys ec=>?_,q,es,ep,hq,h2,h3,h4,h5⟩
  rw[aaF (aOR ec e (fun z=>nomatch z))]
  exact ec
end
section
variable{X:Cx}{pins:List (Addr×Obj)}{σ:St}{H:Hp}{s:Shared}{a:Addr}{kvs:List (Key×V)}{k:Key}{u:Value}{A:Around}{E:Value->Shared->Prop}
end
noncomputable def ay3(i:Expr):Prop:=∀ov iv,subscripted i false ov iv=operate [ov,iv] (getItem ov iv)
theorem auQ{prog:Program}{w:World}{A:Around}{E:Value->Shared->Prop}{s:Shared}{env:Env}{value slice:Expr}{pos:Pos}{T id:String}{Q:Value->Shared->Prop}
  (hl:typeLookup (.type T) "__getitem__"=pure (some (.builtin id))) (hs:ay3 slice)
  (h:wpAny (model prog w) A (eval value env) (fun o s₁=>wpAny (model prog w) A (eval slice env) (fun i s₂=>s₂.TypeIs o T/\wpAny (model prog w) A (getItem o i) Q E s₂) E s₁) E s):
  wpAny (model prog w) A (eval (.Subscript value slice pos) env) Q E s:=by
 refine Subscript_ (dN h (fun o s₁ h₁=>dN h₁ (fun i s₂ h₂=>?_) fun _ _ x=>x) fun _ _ x=>x)
 obtain⟨hT,h₂⟩:=h₂
 unfold subscriptTail
 refine dM ?_
 rw[getitemInPython_of_ne hT.not_modules]
 refine dM (wpAny_specialOf hT hl ?_)
 have fin:wpAny (model prog w) A (subscripted slice false o i) (fun r s₃=>wpAny (model prog w) A (letTemporaryGo value o r >>=fun _=>pure r) Q E s₃) E s₂:=by
  rw[hs o i]
  exact wpAny_operating (dN h₂ (fun r s₃ h₃=>dM (wpAny_letTemporaryGo (dY h₃))) fun _ _ x=>x)
 first
  |exact dY (dM fin)
  |exact dM (dY (dM fin))
  |exact dM fin
theorem apW{X:Cx}{pins:List (Addr×Obj)}{σ:St}{H:Hp}{s:Shared}{a:Addr}{y:V}{o:Option V}(I:Inv X pins σ H s)(g:DGet H a y o):s.TypeIs (.ref a) "dict":=by
 rcases g with ⟨kvs,k,e,_,_⟩ | ⟨kvs,k,b,e,_,_,_⟩
 ·obtain⟨_,_,vs,_,dd⟩:=auP I.hok e
  exact dd.typeIs
 ·obtain⟨_,_,xs,_,dd⟩:=at5 I.hok e
  exact dd.typeIs
noncomputable def aBB(td ty:TE):TE:=fun σ H Q=>td σ H fun x H1=>ty σ H1 fun y H2=>∃a v,x=.ref a/\DGet H2 a y (some v)/\Q v H2
noncomputable def auL(ty td:TE):TE:=fun σ H Q=>ty σ H fun y H1=>td σ H1 fun x H2=>∃a o,x=.ref a/\DGet H2 a y o/\Q (.bl (!o.isSome)) H2
noncomputable def aA8(td ty tv:TE):TS:=fun D σ H=>tv σ H fun v H1=>td σ H1 fun x H2=>ty σ H2 fun y H3=>∃a H4,x=.ref a/\DPut H3 a y v H4/\D.nx σ H4
section
variable{X:Cx}{o i e value:Expr}{pos pos' tpos:Pos}{td ty tv:TE}
theorem az5(hu:X.A.units+1<cLine)(ho:PE X o td)(hi:PE X i ty)(hs:ay3 i):PE X (.Subscript o i pos) (aBB td ty):=by
 intro pins s σ H Q I h
 refine auQ PySem.F.slot_dict_getitem.lookup hs (thn (ho pins s σ H _ I h) fun u s1 ⟨x,H1,I1,rx,q1⟩=>thn (hi pins s1 σ H1 _ I1 q1) fun iv s2 ⟨y,H2,I2,ry,a,v,ex,g,q2⟩=>?_)
 subst ex
 obtain rfl:u=Value.ref a:=rx
 exact⟨apW I2 g,avK hu I2 g ry fun w' s3 I3 rw'=>⟨v,H2,I3,rw',q2⟩⟩
theorem au2(hu:X.A.units+1<cLine)(hi:PE X i ty)(ho:PE X o td):PC X .NotIn i o (auL ty td):=by
 intro pins s σ H Q I h
 refine thn (hi pins s σ H _ I h) fun iv s1 ⟨y,H1,I1,ry,q1⟩=>thn (ho pins s1 σ H1 _ I1 q1) fun u s2 ⟨x,H2,I2,rx,a,ov,ex,g,q2⟩=>?_
 subst ex
 obtain rfl:u=Value.ref a:=rx
 exact aAC hu I2 g ry fun s3 I3=>⟨.bl (!ov.isSome),H2,I3,rfl,q2⟩
theorem azM(hu:X.A.units+1<cLine)(ho:PE X o td)(hi:PE X i ty)(hv:PE X value tv)(hs:swapsWith value (some (.Subscript o i pos')) pos.line X.env=pure false):
  PS X (.Assign [.Subscript o i pos'] value pos) (aA8 td ty tv):=by
 intro pins s σ H D I h
 refine wpAny_Assign_Subscript (thn (hv pins s σ H _ I h) fun r s1 ⟨v,H1,I1,rv,q1⟩=>thn (ho pins s1 σ H1 _ I1 q1) fun u s2 ⟨x,H2,I2,rx,q2⟩=>thn (hi pins s2 σ H2 _ I2 q2) fun iv s3 ⟨y,H3,I3,ry,a,H4,ex,g,q3⟩=>?_) hs
 subst ex
 obtain rfl:u=Value.ref a:=rx
 exact av4 hu I3 g ry rv fun s4 I4=>⟨σ,H4,I4,q3⟩
end
section
variable{X:Cx}{pos:Pos}
end
section
variable{X:Cx}{pins:List (Addr×Obj)}{σ:St}{H:Hp}{s:Shared}{a:Addr}{y d:V}{u r:Value}{o:Option V}{A:Around}{E:Value->Shared->Prop}
end
section
variable{X:Cx}{o e f:Expr}{apos cpos:Pos}{td ty tx:TE}
end
section
variable{X:Cx}{pins:List (Addr×Obj)}{σ:St}{H:Hp}{s:Shared}{a:Addr}{kvs:List (Key×V)}{A:Around}{E:Value->Shared->Prop}
end
section
variable{X:Cx}{pins:List (Addr×Obj)}{σ:St}{H:Hp}{s:Shared}{a:Addr}{y:V}{u:Value}{A:Around}{E:Value->Shared->Prop}
end
section
variable{X:Cx}{k:Nat}{o i kx vx:Expr}{td ty tk tv:TE}{pos:Pos}{keys:List (Option Expr)}{values:List Expr}{trs:List (TE×TE)}
theorem af3{A:Around}(hr:Room k A):A.units+1<cLine:=by have:=hr.un;omega
theorem eDg(hr:Room k X.A)(ho:E X o td)(hi:E X i ty)(hs:ay3 i:=by intro _ _;rfl):E X (.Subscript o i pos) (aBB td ty):=⟨az5 (af3 hr) ho.h hi.h hs⟩
theorem axJ:Op2 X (binaryOp .Mult) aJ2:=⟨aDN⟩
end
section
variable{prog:Program}{w:World}{A:Around}{E:Value->Shared->Prop}{s:Shared}{a:Addr}{es:Array (Int×Value)}{ep:Nat}{t:SetTable}{z:Int}{tk:Tok}
end
section
variable{prog:Program}{w:World}{A:Around}{R:Result->Shared->Prop}{I:Addr}{fp wr:List Addr}{G:Array GenState->Array GenState->Prop}{n:Nat}{P:Nat->Value->Prop}{St:Nat->Shared->Prop}
end
section
variable{prog:Program}{w:World}{A:Around}{E:Value->Shared->Prop}{s:Shared}
end
section
variable{M:Model}{A:Around}{E:Value->Shared->Prop}{s:Shared}
end
section
variable{prog:Program}{w:World}{A:Around}{E:Value->Shared->Prop}{s:Shared}{a I:Addr}{es:Array (Int×Value)}{ep:Nat}{t:SetTable}
end
section
variable{prog:Program}{w:World}{A:Around}{E:Value->Shared->Prop}{s:Shared}{a I:Addr}{es:Array (Int×Value)}{ep:Nat}{t:SetTable}
end
section
variable{X:Cx}
end
section
variable{X:Cx}
end
section
variable{js:List Nat}{σ:St}{tt:TT}{te:TE}{Q:VK}{H1:Hp}
end
theorem ifX{a b:List Nat}{A B:Prop}(h1:a=b->A)(h2:¬a=b->B):if decide (V.str (Tx a)=V.str (Tx b))=true then A else B:=by
 rw[aw1]
 exact ifD h1 h2
end L2
namespace KM
open PySem PySem.Spec PyProof.Rows L2
inductive Mk where
 |num (m:Int) | lst (b:Int) | nea (d:Int) | wrk | wkd (m:Int) | nth (w m:Int) | one (w:Int) | nil
 deriving DecidableEq
noncomputable def Lf(l f:Int):Prop:=(28<=l/\l<=31)/\0<=f/\f<=6
noncomputable def alR(ds:List Int):Int:=(ds.map fun d=>1*2^d.toNat).sum
noncomputable def asc:List Int->Bool
 |[]=>true
 |[_]=>true
 |x::y::r=>decide (x<y)&&asc (y::r)
noncomputable def okA(ds:List Int):Bool:=decide (ds.length<=31)&&(asc ds&&ds.all fun d=>decide (0<=d)&&decide (d<=31))
theorem atP(ds:List Int):0<=alR ds:=by
 unfold alR
 induction ds with
 |nil=>exact aX 0
 |cons d ds ih=>
  have:=aaO d.toNat
  rw[bD,List.sum_cons]
  omega
theorem auU{n:Nat}:∀{ds:List Int} (a:Nat),ds.Pairwise (·<·)->(∀d∈ds,(a:Int)<=d/\d<(n:Int))->a<=n->alR ds+2^a<=2^n
 |[],a,_,_,h=>by
  have:=Nat.pow_le_pow_right (show 0<2 by decide) h
  have e:((2:Int)^a)<=2^n:=by exact_mod_cast this
  show (0:Int)+2^a<=2^n
  omega
 |d::ds,a,hp,hb,h=>by
  have p:=List.pairwise_cons.mp hp
  have hd:=hb d (bX ..)
  have ih:=auU (n:=n) (d.toNat+1) p.2 (fun z hz=>by
   have:=p.1 z hz
   have:=hb z (bY _ hz)
   omega) (by omega)
  have hm:=Nat.pow_le_pow_right (show 0<2 by decide) (show a<=d.toNat by omega)
  have e:((2:Int)^a)<=2^d.toNat:=by exact_mod_cast hm
  have e2:(2:Int)^(d.toNat+1)=2^d.toNat*2:=Int.pow_succ ..
  unfold alR at ih ⊢
  rw[bD,List.sum_cons]
  omega
noncomputable def avW(m l:Int):Int:=Builtin.bitAnd m (2*2^l.toNat-2)
noncomputable def aq5(b l:Int):Int:=if l<=b then 0 else 1*2^(l-b).toNat
noncomputable def an1(m:Int)(n:Nat):Bool:=decide (Builtin.bitAnd (m / 2^(1+(n:Int)).toNat) 1=1)
noncomputable def ahH(m:Int):Nat->List Int
 |0=>[]
 |n+1=>ahH m n++(if an1 m n=true then [1+(n:Int)] else [])
noncomputable def nw(d l f:Int):Int:=if (f+d-1)%7=6 then (if 1<d then d-1 else 3) else if (f+d-1)%7=0 then (if d<l then d+1 else l-2) else d
noncomputable def apE(d l f:Int):Int:=if l<d then 0 else 1*2^(nw d l f).toNat
noncomputable def wk(f:Int)(n:Nat):Bool:=decide (1<=(f+(1+(n:Int))-1)%7)&&decide ((f+(1+(n:Int))-1)%7<=5)
noncomputable def axV(f:Int):Nat->List Int
 |0=>[]
 |n+1=>axV f n++(if wk f n=true then [1+(n:Int)] else [])
noncomputable def ab(i:Int):Int:=if i<0 then -i else i
noncomputable def stp(d acc o:Int):Int:=if acc=0 then o else if ab (o-d)<ab (acc-d) then o else acc
noncomputable def adJ(w m f:Int):Int:=1+(w-f)%7+7*(m-1)
noncomputable def aoM(w m l f:Int):Int:=if l<adJ w m f then 0 else 1*2^(adJ w m f).toNat
noncomputable def ae1(w l f:Int):Int:=l-((f+l-1)%7-w)%7
noncomputable def aBQ(w l f:Int):Int:=1*2^(ae1 w l f).toNat
noncomputable def wks(m:Int):Nat->Int
 |0=>0
 |n+1=>Builtin.bitOr (wks m n) (m*2^(7*(0+(n:Int))).toNat)
noncomputable def wkD(m l f:Int):Int:=Builtin.bitAnd (wks m 6 / 2^f.toNat*2^(1:Int).toNat) (2*2^l.toNat-2)
noncomputable def onD(f w:Int)(n:Nat):Bool:=decide ((f+(1+(n:Int))-1)%7=w)
noncomputable def onN(f w:Int):Nat->List Int
 |0=>[]
 |n+1=>onN f w n++(if onD f w n=true then [1+(n:Int)] else [])
noncomputable def hasW(m f:Int)(n:Nat):Bool:=decide (Builtin.bitAnd (m / 2^((f+(1+(n:Int))-1)%7).toNat) 1=1)
noncomputable def wkN(m f:Int):Nat->List Int
 |0=>[]
 |n+1=>wkN m f n++(if hasW m f n=true then [1+(n:Int)] else [])
noncomputable def anR:List Int:=[1,2,3,4,5,6,7,8,9,10,11,12,13,14,15,16,17,18,19,20,21,22,23,24,25,26,27,28,29,30,31]
noncomputable def ls4:List Int:=[28,29,30,31]
noncomputable def fs7:List Int:=[0,1,2,3,4,5,6]
noncomputable def ms5:List Int:=[1,2,3,4,5]
noncomputable def aq3:List Int:=(List.range 128).map fun n:Nat=>(n:Int)
theorem ayQ:∀l∈ls4,∀f∈fs7,∀d∈anR,d<=l->(axV f l.toNat).foldl (stp d) 0=nw d l f/\1<=nw d l f/\nw d l f<=31:=by decide +kernel
theorem aAV:∀l∈ls4,∀f∈fs7,∀w∈fs7,∀m∈ms5,aoM w m l f=alR (aFW (onN f w l.toNat) (some (m-1)) (some m))/\okA (aFW (onN f w l.toNat) (some (m-1)) (some m))=true/\0<=adJ w m f/\adJ w m f<=100:=by decide +kernel
theorem aA0:∀l∈ls4,∀f∈fs7,∀w∈fs7,atI ((onN f w l.toNat).map V.int) (-1)=some (V.int (ae1 w l f))/\0<=ae1 w l f/\ae1 w l f<=31:=by decide +kernel
theorem aDI:∀m∈aq3,∀l∈ls4,∀f∈fs7,wkD m l f=alR (wkN m f l.toNat)/\okA (wkN m f l.toNat)=true:=by decide +kernel
theorem azH:∀m∈aq3,(∀n:Nat,n<7->(wks m n).natAbs<2^60)/\∀f∈fs7,(wks m 6 / 2^f.toNat).natAbs<2^64:=by decide +kernel
theorem asY{l:Int}(h0:28<=l)(h1:l<=31):l∈ls4:=by
 have:l=28∨l=29∨l=30∨l=31:=by omega
 rcases this with rfl | rfl | rfl | rfl<;>decide
theorem alT{f:Int}(h0:0<=f)(h1:f<=6):f∈fs7:=by
 have:f=0∨f=1∨f=2∨f=3∨f=4∨f=5∨f=6:=by omega
 rcases this with rfl | rfl | rfl | rfl | rfl | rfl | rfl<;>decide
theorem in_m{m:Int}(h0:1<=m)(h1:m<=5):m∈ms5:=by
 have:m=1∨m=2∨m=3∨m=4∨m=5:=by omega
 rcases this with rfl | rfl | rfl | rfl | rfl<;>decide
theorem aDK{m:Int}(h0:0<=m)(h1:m<=127):m∈aq3:=by
 unfold aq3
 exact bS.mpr ⟨m.toNat,cN.mpr (by omega),by omega⟩
theorem aDO{d:Int}(h0:1<=d)(h1:d<=31):d∈anR:=by
 have e:d=1+((d-1).toNat:Int):=by omega
 have hn:(d-1).toNat<31:=by omega
 rw[e]
 generalize (d-1).toNat=n at hn
 have all:∀n:Nat,n<31->(1+(n:Int))∈anR:=by decide +kernel
 exact all n hn
noncomputable def Ok3(d l f:Int):Prop:=(1<=d/\d<=31)/\(28<=l/\l<=31)/\0<=f/\f<=6
theorem atW{d l f:Int}(h:Ok3 d l f)(hd:d<=l):(axV f l.toNat).foldl (stp d) 0=nw d l f/\1<=nw d l f/\nw d l f<=31:=ayQ l (asY h.2.1.1 h.2.1.2) f (alT h.2.2.1 h.2.2.2) d (aDO h.1.1 h.1.2) hd
theorem Lf.last{l f:Int}(h:Lf l f):Ok3 l l f:=⟨⟨by have:=h.1.1;omega,h.1.2⟩,h.1,h.2⟩
theorem aAX{m:Int}(h:0<=m)(n:Nat):an1 m n=tb m (n+1):=by
 have e:(1+(n:Int)).toNat=n+1:=by omega
 unfold an1
 rw[e]
 by_cases c:tb m (n+1)=true
 ·rw[c];exact dR ((ajL h _).mpr c)
 ·have c':tb m (n+1)=false:=by simpa using c
  rw[c'];exact dW fun q=>c ((ajL h _).mp q)
noncomputable def ax6(m:Int)(i:Nat):Bool:=decide (1<=i)&&tb m i
theorem aq0{m:Int}(h:0<=m):∀n:Nat,alR (ahH m n)=mk_ (ax6 m) (n+1)
 |0=>by
  have e:ax6 m 0=false:=rfl
  rw[auE,azN,e]
  rfl
 |n+1=>by
  have ih:=aq0 h n
  rw[auE,←ih]
  show alR (ahH m n++(if an1 m n=true then [1+(n:Int)] else []))=_
  have e:ax6 m (n+1)=an1 m n:=by rw[aAX h];unfold ax6;simp
  have e1:(1+(n:Int)).toNat=n+1:=by omega
  rw[e]
  unfold alR
  rw[bC,List.sum_append]
  by_cases c:an1 m n=true
  ·rw[if_pos c,if_pos c]
   show _+(1*2^(1+(n:Int)).toNat+0)=_
   rw[e1]
   omega
  ·rw[if_neg c,if_neg c]
   rfl
theorem anY(m:Int):∀n:Nat,(ahH m n).length<=n/\(ahH m n).Pairwise (·<·)/\∀d∈ahH m n,0<=d/\d<=n
 |0=>⟨aS _,.nil,fun d hd=>nomatch hd⟩
 |n+1=>by
  obtain⟨h1,hp,h2⟩:=anY m n
  show (ahH m n++(if an1 m n=true then [1+(n:Int)] else [])).length<=n+1/\(ahH m n++(if an1 m n=true then [1+(n:Int)] else [])).Pairwise (·<·)/\∀d∈ahH m n++(if an1 m n=true then [1+(n:Int)] else []),_
  split
  ·refine⟨by simp;omega,List.pairwise_append.mpr ⟨hp,.cons (fun _ h=>nomatch h) .nil,fun a ha b hb=>?_⟩,fun d hd=>?_⟩
   ·have:b=1+(n:Int):=by simpa using hb
    have:=h2 a ha
    omega
   ·rcases bM.mp hd with z | z
    ·have:=h2 d z;omega
    ·have:d=1+(n:Int):=by simpa using z
     omega
  ·rw[cI]
   refine⟨by omega,hp,fun d hd=>?_⟩
   have:=h2 d hd;omega
theorem asS{m l:Int}(h:0<=m)(hl:28<=l/\l<=31):avW m l=alR (ahH m l.toNat)/\(ahH m l.toNat).length<=31/\(ahH m l.toNat).Pairwise (·<·)/\∀d∈ahH m l.toNat,0<=d/\d<=31:=by
 obtain⟨k1,kp,k2⟩:=anY m l.toNat
 have hp:=aaO l.toNat
 refine⟨?_,by omega,kp,fun d hd=>by have:=k2 d hd;omega⟩
 rw[aq0 h]
 have e:(2*2^l.toNat-2:Int)=(2^l.toNat-1)*2^1:=by omega
 have n0:(0:Int)<=2^l.toNat-1:=by omega
 have n1:(0:Int)<=(2^l.toNat-1)*2^1:=by omega
 unfold avW
 rw[e]
 refine acE (aj0 h n1) (atZ _ _) fun i=>?_
 rw[afZ h n1,an6 n0,ajM,atU]
 unfold ax6
 by_cases c1:1<=i
 ·have:(i-1<l.toNat)↔(i<l.toNat+1):=by omega
  simp only[c1,this,decide_true,Bool.true_and]
  rw[Bool.and_comm]
 ·simp[c1]
theorem rng{l:Int}(hl:28<=l/\l<=31):(-(2^62)<=(1:Int)/\(1:Int)<2^62/\ -(2^62)<=l+1/\l+1<2^62)/\(l+1-1).toNat=l.toNat/\(l+1-1).toNat<=sizeLine:=by
 obtain⟨h0,h1⟩:=hl
 refine⟨⟨by decide,by decide,by omega,by omega⟩,by omega,?_⟩
 rw[dO]
 omega
noncomputable def ao7(w m:Int):List (Str×V):=aaR "many" (.int m) (aaR "weekday" (.int w) [])
theorem ne1:¬(("weekday":Str)="many"):=by decide +kernel
theorem aCK(w m:Int):(ao7 w m).lookup ("weekday":Str)=some (.int w):=by
 unfold ao7
 rw[aaE,if_neg ne1,aaE,if_pos rfl]
theorem aEB(w m:Int):(ao7 w m).lookup ("many":Str)=some (.int m):=by
 unfold ao7
 rw[aaE,if_pos rfl]
theorem aAQ(w m:Int):(ao7 w m).lookup ("days":Str)=none:=by
 unfold ao7
 rw[aaE,if_neg (by decide +kernel),aaE,if_neg (by decide +kernel)]
 rfl
noncomputable def Mk.due:Mk->Int->Int->Int
 |.num m,l,_=>avW m l
 |.lst b,l,_=>aq5 b l
 |.nea d,l,f=>apE d l f
 |.wrk,l,f=>1*2^(nw l l f).toNat
 |.wkd m,l,f=>wkD m l f
 |.nth w m,l,f=>aoM w m l f
 |.one w,l,f=>aBQ w l f
 |.nil,_,_=>0
noncomputable def Mk.ok:Mk->Prop
 |.num m=>0<=m
 |.lst b=>0<=b/\b<=30
 |.nea d=>1<=d/\d<=31
 |.wrk=>True
 |.wkd m=>0<=m/\m<=127
 |.nth w m=>(0<=w/\w<=6)/\1<=m/\m<=5
 |.one w=>0<=w/\w<=6
 |.nil=>True
noncomputable def Mk.wk:Mk->Bool
 |.wkd _ | .nth _ _ | .one _=>true
 |_=>false
noncomputable def Mk.tup:Mk->List V
 |.num m=>[.str (Tx [112,108,97,105,110]),.int m,.int 0]
 |.wkd m=>[.str (Tx [112,108,97,105,110]),.int m,.int 0]
 |.lst b=>[.str (Tx [108,97,115,116]),.int b,.int 0]
 |.nea d=>[.str (Tx [110,101,97,114]),.int d,.int 0]
 |.wrk=>[.str (Tx [119,111,114,107]),.int 0,.int 0]
 |.nth w m=>[.str (Tx [110,116,104]),.int w,.int m]
 |.one w=>[.str (Tx [108,97,115,116,111,110,101]),.int w,.int 0]
 |.nil=>[]
noncomputable def Mk.sp:Mk->Bool
 |.nil=>false
 |_=>true
theorem ax7{k:Mk}{l f:Int}(hk:k.ok)(h:Lf l f):0<=k.due l f:=by
 have p1:∀n:Nat,(0:Int)<=1*2^n:=fun n=>by have:=aaO n;omega
 cases k with
 |num m=>show 0<=avW m l;rw[(asS hk h.1).1];exact atP _
 |lst b=>show 0<=aq5 b l;unfold aq5;split;exact aX 0;exact p1 _
 |nea d=>show 0<=apE d l f;unfold apE;split;exact aX 0;exact p1 _
 |wrk=>exact p1 _
 |wkd m=>show 0<=wkD m l f;rw[(aDI m (aDK hk.1 hk.2) l (asY h.1.1 h.1.2) f (alT h.2.1 h.2.2)).1];exact atP _
 |nth w m=>show 0<=aoM w m l f;unfold aoM;split;exact aX 0;exact p1 _
 |one w=>exact p1 _
 |nil=>exact aX 0
noncomputable def orK(ks:List Mk)(l f:Int):Int:=orM (ks.map fun k=>k.due l f)
theorem ayP(ks:List Mk)(k:Mk)(l f:Int):orK (ks++[k]) l f=Builtin.bitOr (orK ks l f) (k.due l f):=by unfold orK;rw[bC];exact aeS _ _
structure Cs where
 (nu la ne lw we nt lo ma:Addr)
noncomputable def MkAt(c:Cs)(H:Hp)(x:Addr):Mk->Prop
 |.num m=>∃dx,H x=some (.ins c.nu dx [("mask",.int m)])
 |.lst b=>∃dx,H x=some (.ins c.la dx [("back",.int b)])
 |.nea d=>∃dx,H x=some (.ins c.ne dx [("day",.int d)])
 |.wrk=>∃dx,H x=some (.ins c.lw dx [])
 |.wkd m=>∃dx,H x=some (.ins c.we dx [("mask",.int m)])
 |.nth w m=>∃dx,H x=some (.ins c.nt dx (ao7 w m))
 |.one w=>∃dx,H x=some (.ins c.lo dx [("weekday",.int w)])
 |.nil=>∃dx,H x=some (.ins c.ma dx [])
theorem MkAt.keep{c:Cs}{H H':Hp}(s:Keep H H'){x:Addr}{k:Mk}(h:MkAt c H x k):MkAt c H' x k:=by
 cases k<;>(obtain⟨dx,h⟩:=h;exact⟨dx,s.ins h⟩)
noncomputable def PrAt(H:Hp)(p:Addr)(k:Mk):Prop:=k.ok/\k.sp=true/\∃u,H p=some (.tup [.ref u,.bl k.wk])/\H u=some (.tup k.tup)
theorem PrAt.keep{H H':Hp}(s:Keep H H'){p:Addr}{k:Mk}(h:PrAt H p k):PrAt H' p k:=by
 obtain⟨o,e,u,h1,h2⟩:=h
 exact⟨o,e,u,s.tup h1,s.tup h2⟩
noncomputable abbrev Ft(R:Addr->Mk->Prop):List Addr->List Mk->Prop:=Paired R
theorem Ft.get{R:Addr->Mk->Prop}:∀{ps:List Addr} {ks:List Mk},Ft R ps ks->∀{i:Nat} {p:Addr},ps[i]? =some p->∃k,ks[i]? =some k/\R p k
 |_,_,.nil,_,_,h=>nomatch h
 |_,_,.cons r _,0,_,h=>by cases h;exact⟨_,rfl,r⟩
 |_,_,.cons _ t,i+1,_,h=>Ft.get t h
theorem Ft.keepM{c:Cs}{H H':Hp}(s:Keep H H'){ps:List Addr}{ks:List Mk}(h:Ft (MkAt c H) ps ks):Ft (MkAt c H') ps ks:=Paired.imp' (fun _ _ z=>z.keep s) h
theorem Ft.app{R:Addr->Mk->Prop}:∀{ps:List Addr} {ks:List Mk} {ps':List Addr} {ks':List Mk},Ft R ps ks->Ft R ps' ks'->Ft R (ps++ps') (ks++ks')
 |_,_,_,_,.nil,h=>h
 |_,_,_,_,.cons r t,h=>.cons r (Ft.app t h)
end KM
namespace L2
open PySem
theorem aHF{us:List Value}(h:us.length=1):∃a,us=[a]:=by
 cases us with
 |nil=>cases h
 |cons a r=>cases r with
  |nil=>exact⟨a,rfl⟩
  |cons b r=>cases h
theorem aCR{us:List Value}{n:Nat}(h:us.length=n+1):∃a r,us=a::r/\r.length=n:=by
 cases us with
 |nil=>cases h
 |cons a r=>exact⟨a,r,rfl,Nat.succ.inj h⟩
theorem aJJ{us:List Value}(h:us.length=2):∃a b,us=[a,b]:=by
 obtain⟨a,r,rfl,h'⟩:=aCR h
 obtain⟨b,rfl⟩:=aHF h'
 exact⟨a,b,rfl⟩
theorem aGJ{us:List Value}(h:us.length=3):∃a b c,us=[a,b,c]:=by
 obtain⟨a,r,rfl,h'⟩:=aCR h
 obtain⟨b,c,rfl⟩:=aJJ h'
 exact⟨a,b,c,rfl⟩
theorem len4{us:List Value}(h:us.length=4):∃a b c d,us=[a,b,c,d]:=by
 obtain⟨a,r,rfl,h'⟩:=aCR h
 obtain⟨b,c,d,rfl⟩:=aGJ h'
 exact⟨a,b,c,d,rfl⟩
structure DfA(P:Program)(w:World)(K:FG)(mg:Str->Option Value)(base:Heap)(f:Addr)(k:Nat)(ps:List Str)(sp:Sp):Prop where
 ex:∃fd:FuncData,FnOk P w K mg base CX0 k f fd ps sp/\Binds K fd ps []/\PySem.W.keepIn K (.ref f)=true
theorem Df.at_{P:Program}{w:World}{K:FG}{mg:Str->Option Value}{base:Heap}{x:Str}{k:Nat}{ps:List Str}{sp:Sp}{f:Addr}(D:Df P w K mg base x k ps sp)(hm:mg x=some (.ref f)):DfA P w K mg base f k ps sp:=by
 obtain⟨f',fd,F,hb,hm',kp⟩:=D.ex
 rw[hm] at hm'
 cases hm'
 exact⟨fd,F,hb,kp⟩
noncomputable def aC6(f:Addr)(sp:Sp)(tv:TE)(t:TA):TE:=fun σ H Q=>tv σ H fun v H1=>v=.ref f/\at6 sp [] E0 t σ H1 Q
section
variable{X:Cx}{f:Addr}{k k':Nat}{ps:List Str}{sp:Sp}{y:Str}{e:Expr}{es:List Expr}{t:TA}{tv:TE}{p pos:Pos}
theorem eDV(D:DfA X.prog X.w X.K X.mg X.base f k ps sp)(hr:Room k' X.A)(hv:E X (.Name y p) tv)(ha:As X (e::es) t)(hk:k<=k':=by decide)
  (he:starEach (e::es) X.env=(false,eval e X.env)::starEach es X.env:=by rfl) (hpl:(backTo pos (starEach es X.env)).any (·.1)=false:=by rfl):E X (.Call (.Name y p) (e::es) [] pos) (aC6 f sp tv t):=by
 obtain⟨fd,F,hb,kp⟩:=D.ex
 refine⟨fun pins s σ H Q I h=>?_⟩
 refine dX (thn (hv.h pins s σ H _ I h) fun v s1 ⟨x,H1,I1,r1,ex,q⟩=>?_)
 subst ex
 cases r1
 refine PySem.W.callWith_K (h₀:=X.base) I1.ok.mod.kin kp (thn (ha.h pos pins s1 σ H1 _ I1 q) fun us s2 ⟨vs,H2,I2,r,q2⟩=>⟨I2.kIn,?_⟩) he hpl
 exact as6 F (hr.mono hk) hb .nil aq4 I2 r q2
end
section
variable{X:Cx}
noncomputable def aE4:V->List V->Hp->VK->Prop:=fun x vs H Q=>∃l p:List Nat,x=.str (Tx l)/\vs=[.str (Tx p)]/\Q (.bl (decide (l.take p.length=p))) H
theorem aCH(l p:List Nat):(decide (0+(Tx p).length<=(Tx l).length)&&Builtin.Str.subAt (Tx l) (Tx p) 0)=decide (l.take p.length=p):=by
 rw[abD,abD]
 have e:(Tx l).cps.extract 0 (0+(Tx p).length)=(l.take p.length).toArray:=by
  rw[abD]
  show l.toArray.extract 0 (0+p.length)=_
  simp
 have e2:(((l.take p.length).toArray==p.toArray:Bool))=decide (l.take p.length=p):=by
  by_cases h:l.take p.length=p
  ·rw[h];simp
  ·rw[dW h]
   exact beq_eq_false_iff_ne.mpr fun z=>h (by simpa using congrArg Array.toList z)
 unfold Builtin.Str.subAt
 rw[e]
 show (_&&((l.take p.length).toArray==p.toArray))=_
 rw[e2]
 by_cases h:l.take p.length=p
 ·have:0+p.length<=l.length:=by
   have:=congrArg List.length h
   rw[cR] at this
   omega
  rw[dR this,Bool.true_and]
 ·rw[dW h,Bool.and_false]
theorem aCE:MtR X "str.startswith" aE4:=by
 intro pins s σ H x xs v us Q I rx rv h
 obtain⟨l,p,rfl,rfl,q⟩:=h
 obtain⟨u,rfl,r1⟩:=acW rv
 obtain⟨t',rfl⟩:=r1
 obtain⟨t,rfl⟩:=rx
 refine call_gives PySem.F.slot_str_startswith (typeIs_str _ _ _) PySem.F.entry_str_startswith (PySem.F.args_str_startswith_2 _ _) (gives_str_startswith (Tx l) (Tx p) t t') ?_
 rw[aCH]
 exact⟨.bl _,H,I,rfl,q⟩
theorem eSwN{o e:Expr}{to te:TE}{apos cpos:Pos}(ho:E X o to)(he:E X e te)(hbase:attributeBase o "startswith" X.env (eval o X.env)=eval o X.env:=by rfl)
  (hfew:((backTo cpos (starEach [e] X.env)).all (fun x=> !x.1)&&(backToKw cpos (keywordEach [] X.env)).all (fun x=>x.1.isSome)&&decide (([e]:List Expr).length+([]:List Keyword).length+(if ([]:List Keyword).isEmpty then 0 else 1)<30))=true:=by rfl)
  (hline:(apos.endLine==cpos.line)=true:=by rfl) (hs:starEach [e] X.env=(false,eval e X.env)::starEach [] X.env:=by rfl) (hplain:(backTo cpos (starEach [] X.env)).any (·.1)=false:=by rfl):
  E X (.Call (.Attribute o "startswith" apos) [e] [] cpos) (tBM X.K "str" aE4 to (aeF te alG)):=
 ⟨aqD PySem.F.plainAttrs_str PySem.F.slot_str_startswith PySem.F.type_str_startswith aCE ho.h (acT he.h aeQ hs) hbase hfew hline hs hplain⟩
noncomputable def rEw:V->List V->Hp->VK->Prop:=fun x vs H Q=>∃(l:List Nat) (c:Nat),x=.str (Tx l)/\vs=[.str (Tx [c])]/\Q (.bl (decide (l.getLast? =some c))) H
theorem aHR(l:List Nat)(c:Nat):(decide (0+(Tx [c]).length<=(Tx l).length)&&Builtin.Str.subAt (Tx l) (Tx [c]) ((Tx l).length-(Tx [c]).length))=decide (l.getLast? =some c):=by
 rw[abD,abD]
 rcases List.eq_nil_or_concat l with rfl | ⟨r,x,rfl⟩
 ·simp
 ·rw[List.concat_eq_append]
  have e:(Tx (r++[x])).cps.extract ((r++[x]).length - [c].length) ((r++[x]).length - [c].length+(Tx [c]).length)= #[x]:=by
   show (r++[x]).toArray.extract ((r++[x]).length-1) ((r++[x]).length-1+1)= #[x]
   rw[aW,bV,Nat.add_sub_cancel]
   simp
  unfold Builtin.Str.subAt
  rw[e]
  have e2:decide (0+[c].length<=(r++[x]).length)=true:=by simp
  rw[e2,Bool.true_and,List.getLast?_append,List.getLast?_singleton]
  show (#[x]== #[c])=decide (some x=some c)
  by_cases h:x=c
  ·subst h;simp
  ·have h2:¬some x=some c:=fun z=>h (bA z)
   rw[dW h2]
   exact beq_eq_false_iff_ne.mpr fun z=>h (by simpa using z)
theorem aF1:MtR X "str.endswith" rEw:=by
 intro pins s σ H x xs v us Q I rx rv h
 obtain⟨l,c,rfl,rfl,q⟩:=h
 obtain⟨u,rfl,r1⟩:=acW rv
 obtain⟨t',rfl⟩:=r1
 obtain⟨t,rfl⟩:=rx
 refine call_gives PySem.F.slot_str_endswith (typeIs_str _ _ _) PySem.F.entry_str_endswith (PySem.F.args_str_endswith_2 _ _) (gives_str_endswith (Tx l) (Tx [c]) t t') ?_
 rw[aHR]
 exact⟨.bl _,H,I,rfl,q⟩
theorem eEw{o e:Expr}{to te:TE}{apos cpos:Pos}(ho:E X o to)(he:E X e te)(hbase:attributeBase o "endswith" X.env (eval o X.env)=eval o X.env:=by rfl)
  (hfew:((backTo cpos (starEach [e] X.env)).all (fun x=> !x.1)&&(backToKw cpos (keywordEach [] X.env)).all (fun x=>x.1.isSome)&&decide (([e]:List Expr).length+([]:List Keyword).length+(if ([]:List Keyword).isEmpty then 0 else 1)<30))=true:=by rfl)
  (hline:(apos.endLine==cpos.line)=true:=by rfl) (hs:starEach [e] X.env=(false,eval e X.env)::starEach [] X.env:=by rfl) (hplain:(backTo cpos (starEach [] X.env)).any (·.1)=false:=by rfl):
  E X (.Call (.Attribute o "endswith" apos) [e] [] cpos) (tBM X.K "str" rEw to (aeF te alG)):=
 ⟨aqD PySem.F.plainAttrs_str PySem.F.slot_str_endswith PySem.F.type_str_endswith aF1 ho.h (acT he.h aeQ hs) hbase hfew hline hs hplain⟩
end
end L2
namespace KM
open PySem PySem.Spec PyProof.Rows L2
noncomputable def ac2(t:List Nat):Option Mk:=
 if t=[76] then some (.lst 0) else if t=[76,87] then some .wrk
 else if t.take ([76,45]:List Nat).length=[76,45] then (aaT 1 30 (ae5 t (some 2) none)).map Mk.lst
 else if t.getLast? =some 87 then (aaT 1 31 (ae5 t none (some (-1)))).map Mk.nea else none
noncomputable def wdN(t:List Nat):Option Int:=(aaT 0 7 t).map fun n=>if n=7 then 0 else n
noncomputable def aBA:Option Int->Option Int->Option Mk
 |some w,some m=>some (.nth w m)
 |_,_=>none
noncomputable def anP(t:List Nat):Option Mk:=
 if t.getLast? =some 76 then (wdN (ae5 t none (some (-1)))).map Mk.one
 else match spl 35 t with
  |[a,b]=>aBA (wdN a) (aaT 1 5 b)
  |_=>none
noncomputable def rdM(wk:Bool)(t:List Nat):Option Mk:=if wk=true then anP t else ac2 t
noncomputable def MkV(c:Cs)(H:Hp)(v:V):Option Mk->Prop
 |none=>v=.non
 |some k=>∃x,v=.ref x/\MkAt c H x k
theorem abR(c:Nat):∀(l:List Nat),∀w∈spl c l,w.length<=l.length
 |[],w,hw=>by simp[spl] at hw;simp[hw]
 |x::r,w,hw=>by
  have ih:=abR c r
  unfold spl at hw
  split at hw
  ·rcases bB.mp hw with z | z
   ·subst z;simp
   ·have:=ih w z;simp;omega
  ·split at hw
   ·rename_i h t e
    rcases bB.mp hw with z | z
    ·subst z
     have:=ih h (by rw[e];simp)
     simp;omega
    ·have:=ih w (by rw[e];simp[z])
     simp;omega
   ·have:w=[x]:=by simpa using hw
    subst this;simp
noncomputable def plP(lo hi:Int)(ws:List (List Nat)):List Int:=ws.filterMap (aaJ lo hi)
noncomputable def mkP(wk:Bool)(lo hi:Int)(ws:List (List Nat)):List Mk:=ws.filterMap fun w=>if (aaJ lo hi w).isSome=true then none else rdM wk w
theorem aAK{lo hi:Int}{ws:List (List Nat)}{w:List Nat}{m:Int}(h:aaJ lo hi w=some m):plP lo hi (ws++[w])=plP lo hi ws++[m]:=by
 unfold plP
 rw[dF]
 simp[h]
theorem awW{lo hi:Int}{ws:List (List Nat)}{w:List Nat}(h:aaJ lo hi w=none):plP lo hi (ws++[w])=plP lo hi ws:=by
 unfold plP
 rw[dF]
 simp[h]
theorem aEG{wk:Bool}{lo hi:Int}{ws:List (List Nat)}{w:List Nat}{m:Int}(h:aaJ lo hi w=some m):mkP wk lo hi (ws++[w])=mkP wk lo hi ws:=by
 unfold mkP
 rw[dF]
 simp[h]
theorem ajN{wk:Bool}{lo hi:Int}{ws:List (List Nat)}{w:List Nat}{k:Mk}(h:aaJ lo hi w=none)(hk:rdM wk w=some k):mkP wk lo hi (ws++[w])=mkP wk lo hi ws++[k]:=by
 unfold mkP
 rw[dF]
 simp[h,hk]
theorem ap5(wk:Bool)(lo hi:Int)(ws:List (List Nat))(i:Nat):(mkP wk lo hi (ws.take i)).length<=(mkP wk lo hi ws).length:=((List.take_sublist i ws).filterMap _).length_le
structure ItemsOk(wk:Bool)(lo hi:Int)(l:List Nat):Prop where
 len:l.length<=300
 few:(spl 44 l).length<=40
 all:∀w∈spl 44 l,(aaJ lo hi w).isSome=true∨(rdM wk w).isSome=true
 most:(mkP wk lo hi (spl 44 l)).length<=20
theorem aBY{xs:List V}(h:xs.length<=40):ahL xs none (some 40)=xs:=by
 unfold ahL
 have e1:HT.sIx xs.length 0 none=0:=rfl
 have e2:xs.length<=HT.sIx xs.length xs.length (some 40):=by
  show xs.length<=HT.sIx xs.length xs.length (some 40)
  unfold HT.sIx
  simp
  omega
 rw[e1,List.drop_zero,Nat.sub_zero]
 exact dI e2
noncomputable def RunV(H:Hp)(r:V):Option (Int×Int)->Prop
 |none=>r=.non
 |some (a,b)=>∃p,r=.ref p/\H p=some (.tup [.int a,.int b])
theorem azB(es:List (Option Int)):(es.map oV).all afE=true:=by
 rw[List.all_map]
 refine bW.mpr fun x _=>?_
 cases x<;>rfl
noncomputable def wk7(m:Int):Int:=Builtin.bitAnd (Builtin.bitOr m (m / 2^(7:Int).toNat)) 127
noncomputable def afU(wk:Bool)(m:Int):List Mk:=if m=0 then [] else if wk=true then [.wkd (wk7 m)] else [.num m]
noncomputable def ajU(wk:Bool)(lo hi:Int)(l:List Nat):List Mk:=afU wk (orM (plP lo hi (spl 44 l)))++mkP wk lo hi (spl 44 l)
noncomputable def Cl(t:List Nat):Prop:=(44∉t/\32∉t)/\t≠[]/\t.length<=8
instance (t:List Nat):Decidable (Cl t):=by unfold Cl;exact inferInstance
noncomputable def adP(lo hi:Int)(t:List Nat)(ns:List Int):Prop:=aaJ lo hi t=some (abA ns)/\Cl t/\(∀n∈ns,lo<=n/\n<=hi)/\ns≠[]/\ns.length<=64
theorem ac6{c:Nat}{a b:List Nat}{d:Nat}(h1:c∉a)(h2:c∉b)(h3:c≠d):c∉a++d::b:=by
 simp only[bM,bB,not_or]
 exact⟨h1,h3,h2⟩
theorem ao3{a b:List Nat}{d:Nat}(ha:(44∉a/\32∉a)/\a≠[]/\a.length<=5)(hb:(44∉b/\32∉b)/\b.length<=2)(h1:44≠d)(h2:32≠d):Cl (a++d::b):=by
 refine⟨⟨ac6 ha.1.1 hb.1.1 h1,ac6 ha.1.2 hb.1.2 h2⟩,by simp,?_⟩
 have:=ha.2.2
 have:=hb.2
 rw[aW,bU]
 omega
theorem adA{n:Nat}(h:n<100):(44∉num n/\32∉num n)/\num n≠[]/\(num n).length<=2:=⟨⟨aa8 h (by decide),aa8 h (by decide)⟩,aB6 n,(aeG n h).2.2.2⟩
theorem ahZ{a b s lo hi:Int}(h0:0<=a)(h1:b<=63)(hab:a<=b)(hs:0<s)(hl:lo<=a)(hb:b<=hi):(∀n∈acU a b s,lo<=n/\n<=hi)/\acU a b s≠[]/\(acU a b s).length<=64:=by
 refine⟨fun n hn=>?_,fun e=>?_,?_⟩
 ·have:=(aoH hs).mp hn
  omega
 ·have:a∈acU a b s:=(aoH hs).mpr ⟨aX _,hab,by rw[Int.sub_self];rfl⟩
  rw[e] at this
  cases this
 ·rw[ab6,aU,dE,ajR hs,if_pos hab]
  have:=Int.ediv_le_self (a:=b-a) s (by omega)
  omega
theorem aAI(a:Int):acU a a 1=[a]:=by
 rw[ab6,ajR (by decide),if_pos (aX a),Int.sub_self]
 show [a+((0:Nat):Int)*1]=[a]
 simp
theorem i1{lo hi a:Int}(h0:0<=lo)(h1:lo<=a)(h2:a<=hi)(h3:hi<=63):adP lo hi (num a.toNat) [a]:=by
 have ha:a.toNat<100:=by omega
 have e:=auH (lo:=lo) (hi:=hi) ha (by omega) (by omega)
 rw[bF (by omega)] at e
 have c:=adA ha
 have r:=ahZ (a:=a) (b:=a) (s:=1) (lo:=lo) (hi:=hi) (by omega) (by omega) (by omega) (by decide) h1 h2
 have e2:=aj3 (aa8 ha (by decide)) e
 unfold aiV at e2
 rw[aAI] at e2 r
 exact⟨e2,⟨c.1,c.2.1,by have:=c.2.2;omega⟩,r⟩
theorem i2{lo hi a b:Int}(h0:0<=lo)(h1:lo<=a)(h2:a<=b)(h4:b<=hi)(h3:hi<=63):adP lo hi (num a.toNat++45::num b.toNat) (acU a b 1):=by
 have ha:a.toNat<100:=by omega
 have hb:b.toNat<100:=by omega
 have e:=atE (lo:=lo) (hi:=hi) ha hb (by omega) (by omega) (by omega)
 rw[bF (by omega),bF (by omega)] at e
 have ca:=adA ha
 have cb:=adA hb
 exact⟨aj3 (ac6 (aa8 ha (by decide)) (aa8 hb (by decide)) (by decide)) e,ao3 ⟨ca.1,ca.2.1,by have:=ca.2.2;omega⟩ ⟨cb.1,cb.2.2⟩ (by decide) (by decide),ahZ (by omega) (by omega) h2 (by decide) h1 h4⟩
theorem i0{lo hi:Int}(h0:0<=lo)(h1:lo<=hi)(h3:hi<=63):adP lo hi [42] (acU lo hi 1):=
 ⟨aj3 (by decide) aqW,by decide,ahZ h0 h3 h1 (by decide) (aX _) (aX _)⟩
theorem i3{lo hi s:Int}(h0:0<=lo)(h1:lo<=hi)(h3:hi<=63)(hs:1<=s/\s<=99):adP lo hi ([42]++47::num s.toNat) (acU lo hi s):=by
 have hs':s.toNat<100:=by omega
 have e:=ak7 (show 47∉[42] by decide) (aqW (lo:=lo) (hi:=hi)) hs' (by omega)
 rw[if_neg (by decide),bF (by omega)] at e
 have cs:=adA hs'
 exact⟨e,ao3 (by decide) ⟨cs.1,cs.2.2⟩ (by decide) (by decide),ahZ h0 h3 h1 (by omega) (aX _) (aX _)⟩
theorem i4{lo hi a s:Int}(h0:0<=lo)(h1:lo<=a)(h2:a<=hi)(h3:hi<=63)(hs:1<=s/\s<=99):adP lo hi (num a.toNat++47::num s.toNat) (acU a hi s):=by
 have ha:a.toNat<100:=by omega
 have hs':s.toNat<100:=by omega
 have e1:=auH (lo:=lo) (hi:=hi) ha (by omega) (by omega)
 have e:=ak7 (aa8 ha (by decide)) e1 hs' (by omega)
 rw[if_pos (aeG _ ha).1,bF (by omega),bF (by omega)] at e
 have ca:=adA ha
 have cs:=adA hs'
 exact⟨e,ao3 ⟨ca.1,ca.2.1,by have:=ca.2.2;omega⟩ ⟨cs.1,cs.2.2⟩ (by decide) (by decide),ahZ (by omega) h3 h2 (by omega) h1 (aX _)⟩
theorem i5{lo hi a b s:Int}(h0:0<=lo)(h1:lo<=a)(h2:a<=b)(h4:b<=hi)(h3:hi<=63)(hs:1<=s/\s<=99):adP lo hi ((num a.toNat++45::num b.toNat)++47::num s.toNat) (acU a b s):=by
 have ha:a.toNat<100:=by omega
 have hb:b.toNat<100:=by omega
 have hs':s.toNat<100:=by omega
 have e1:=atE (lo:=lo) (hi:=hi) ha hb (by omega) (by omega) (by omega)
 have e:=ak7 (ac6 (aa8 ha (by decide)) (aa8 hb (by decide)) (by decide)) e1 hs' (by omega)
 rw[if_neg (by rw[aD6 (c:=45) (by simp) (by decide)];exact a9),bF (by omega),bF (by omega),bF (by omega)] at e
 have ca:=adA ha
 have cb:=adA hb
 have cs:=adA hs'
 refine⟨e,ao3 ⟨⟨ac6 ca.1.1 cb.1.1 (by decide),ac6 ca.1.2 cb.1.2 (by decide)⟩,by simp,?_⟩ ⟨cs.1,cs.2.2⟩ (by decide) (by decide),ahZ (by omega) (by omega) h2 (by omega) h1 h4⟩
 have:=ca.2.2
 have:=cb.2.2
 rw[aW,bU]
 omega
theorem afV{m:Int}(h:0<=m)(i:Nat):0<=wk7 m/\tb (wk7 m) i=((tb m i||tb m (7+i))&&decide (i<7)):=by
 have h1:(0:Int)<=m / 2^(7:Int).toNat:=c7 h (by decide)
 unfold wk7
 refine⟨aj0 (alC h h1) (by decide),?_⟩
 rw[afZ (alC h h1) (by decide),apH h h1,adG h]
 have e:tb 127 i=decide (i<7):=ajM 7 i
 rw[e]
 rfl
theorem aqQ{ms:List Int}(h:∀m∈ms,0<=m):orM ms=0↔∀m∈ms,m=0:=by
 constructor
 ·intro e m hm
  refine acE (h m hm) (aX 0) fun i=>?_
  have z:=adC h i
  rw[e,aa4] at z
  have:=cW.mp z.symm m hm
  rw[aa4]
  simpa using this
 ·intro e
  refine acE (aeD h) (aX 0) fun i=>?_
  rw[adC h,aa4,cW]
  intro m hm
  rw[e m hm,aa4]
  exact a9
theorem awR{ms:List Int}(h:∀m∈ms,0<=m):wk7 (orM ms)=orM (ms.map wk7):=by
 have h':∀m∈ms.map wk7,0<=m:=fun m hm=>by
  obtain⟨z,hz,rfl⟩:=bS.mp hm
  exact (afV (h z hz) 0).1
 refine acE (afV (aeD h) 0).1 (aeD h') fun i=>?_
 rw[(afV (aeD h) i).2,adC h,adC h,adC h',List.any_map,cQ]
 simp only[bH,Bool.or_eq_true,List.any_eq_true,dU,Function.comp]
 constructor
 ·rintro⟨⟨m,hm,e⟩ | ⟨m,hm,e⟩,hi⟩
  ·exact⟨m,hm,by rw[(afV (h m hm) i).2,e,dR hi];rfl⟩
  ·exact⟨m,hm,by rw[(afV (h m hm) i).2,e,dR hi,Bool.or_true];rfl⟩
 ·rintro⟨m,hm,e⟩
  rw[(afV (h m hm) i).2,bH,Bool.or_eq_true,dU] at e
  rcases e with ⟨e | e,hi⟩
  ·exact⟨.inl ⟨m,hm,e⟩,hi⟩
  ·exact⟨.inr ⟨m,hm,e⟩,hi⟩
theorem aA3{m:Int}(h0:0<m)(h1:m<=255):wk7 m≠0/\0<=wk7 m/\wk7 m<=127:=by
 have all:∀n:Nat,n<256->0<n->wk7 (n:Int)≠0/\0<=wk7 (n:Int)/\wk7 (n:Int)<=127:=by decide +kernel
 have e:m=((m.toNat:Nat):Int):=by omega
 rw[e]
 exact all m.toNat (by omega) (by omega)
noncomputable def SpT(b:Bool)(t:List Nat):Mk->Prop
 |.num m=>b=false/\aaJ 1 31 t=some m/\0<m
 |.wkd m=>b=true/\∃M,aaJ 0 7 t=some M/\(0<M/\M<=255)/\m=wk7 M
 |.nil=>False
 |k=>aaJ (if b=true then 0 else 1) (if b=true then 7 else 31) t=none/\rdM b t=some k
theorem ayL:SpT false [76] (.lst 0)/\Cl [76]:=by
 refine⟨⟨?_,?_⟩,by decide⟩<;>decide +kernel
theorem awY:SpT false [76,87] .wrk/\Cl [76,87]:=by
 refine⟨⟨?_,?_⟩,by decide⟩<;>decide +kernel
theorem aCS:∀n:Nat,n<31->1<=n->(aaJ 1 31 ([76,45]++num n)=none/\rdM false ([76,45]++num n)=some (.lst n))/\Cl ([76,45]++num n):=by decide +kernel
theorem aDD:∀n:Nat,n<32->1<=n->(aaJ 1 31 (num n++[87])=none/\rdM false (num n++[87])=some (.nea n))/\Cl (num n++[87]):=by decide +kernel
theorem aFG:∀n:Nat,n<8->(aaJ 0 7 (num n++[76])=none/\rdM true (num n++[76])=some (.one ((n:Int)%7)))/\Cl (num n++[76]):=by decide +kernel
theorem aBP:∀n:Nat,n<8->∀m:Nat,m<6->1<=m->(aaJ 0 7 (num n++[35]++num m)=none/\rdM true (num n++[35]++num m)=some (.nth ((n:Int)%7) m))/\Cl (num n++[35]++num m):=by decide +kernel
theorem ahY{ns:List Int}(h:ns≠[])(hn:∀n∈ns,0<=n):0<abA ns:=by
 have h0:=ad8 ns
 rcases Int.lt_or_eq_of_le h0 with h1 | h1
 ·exact h1
 ·cases ns with
  |nil=>exact absurd rfl h
  |cons n r=>
   have z:=agH (n::r) n.toNat
   rw[←h1,aa4,cH] at z
   simp at z
theorem aj6{ns:List Int}{n:Nat}(hn:∀z∈ns,0<=z/\z<(n:Int)):abA ns<2^n:=by
 have e:abA ns=mk_ (tb (abA ns)) n:=by
  refine acE (ad8 _) (atZ _ _) fun i=>?_
  rw[atU]
  by_cases c:i<n
  ·rw[dR c,Bool.true_and]
  ·rw[dW c,Bool.false_and,agH,cW]
   intro z hz
   have:=hn z hz
   have:¬z.toNat=i:=by omega
   simpa using this
 rw[e]
 exact awX _ _
end KM
namespace L2
open PySem PySem.Spec PyProof.Rows PySem.SeqAt
section
variable{X:Cx}
structure IsC(K:FG)(C:Addr):Prop where
 ha:PySem.W.findIn K (.ref C) "__class__"=some (some (.builtin "object.__class__"))
 hn:PySem.W.specialIn K (.builtin "object.__class__") "__get__"=some (some (.builtin "getset_descriptor.__get__"))
 htk:PySem.W.takesIn K (.builtin "object.__class__")=some true
 hm:PySem.W.mroIn K C (.type "object")=some true
theorem IsC.ty{K:FG}{C a dx:Addr}{H:Hp}{fs:List (Str×V)}(i:IsC K C)(c:Cls K C)(h:H a=some (.ins C dx fs)):TyOf K H (.ref a) (.ref C):=.ins h c i.ha i.hn i.htk i.hm
end
end L2
namespace KM
open PySem PySem.Spec PyProof.Rows L2
noncomputable def TpAt(b:Bool)(H:Hp)(u:Addr)(k:Mk):Prop:=H u=some (.tup k.tup)/\k.sp=true/\k.wk=b/\k.ok
theorem TpAt.keep{b:Bool}{H H':Hp}(s:Keep H H'){u:Addr}{k:Mk}(h:TpAt b H u k):TpAt b H' u k:=⟨s.tup h.1,h.2⟩
theorem Ft.keepT{b:Bool}{H H':Hp}(s:Keep H H'){ps:List Addr}{ks:List Mk}(h:Ft (TpAt b H) ps ks):Ft (TpAt b H') ps ks:=Paired.imp' (fun _ _ z=>z.keep s) h
noncomputable def Mk.pl:Mk->Option Int
 |.num m=>some m
 |.wkd m=>some m
 |_=>none
noncomputable def plK(ks:List Mk):List Int:=ks.filterMap Mk.pl
noncomputable def otK(ks:List Mk):List Mk:=ks.filter fun k=>k.pl.isNone
noncomputable def at1(b:Bool)(M:Int):List Mk:=if M=0 then [] else if b=true then [.wkd M] else [.num M]
noncomputable def ayW(b:Bool)(ks:List Mk):List Mk:=at1 b (orM (plK ks))++otK ks
theorem aKI{b:Bool}{ks:List Mk}(h:∀k∈ks,k.sp=true/\k.wk=b/\k.ok):∀m∈plK ks,0<=m/\(b=true->m<=127):=by
 intro m hm
 obtain⟨k,hk,e⟩:=List.mem_filterMap.mp hm
 have:=h k hk
 cases k with
 |num z=>cases e;exact⟨this.2.2,fun hb=>by rw[←this.2.1] at hb;cases hb⟩
 |wkd z=>cases e;exact⟨this.2.2.1,fun _=>this.2.2.2⟩
 |lst z=>cases e
 |nea z=>cases e
 |wrk=>cases e
 |nth z y=>cases e
 |one z=>cases e
 |nil=>cases e
theorem axA{ms:List Int}{n:Nat}(h:∀m∈ms,0<=m/\m<2^n):orM ms<2^n:=by
 have h0:∀m∈ms,0<=m:=fun m hm=>(h m hm).1
 have e:orM ms=mk_ (tb (orM ms)) n:=by
  refine acE (aeD h0) (atZ _ _) fun i=>?_
  rw[atU]
  by_cases c:i<n
  ·rw[dR c,Bool.true_and]
  ·rw[dW c,Bool.false_and,adC h0,cW]
   intro m hm
   rw[acP (h m hm).2 (by omega)]
   exact a9
 rw[e]
 exact awX _ _
theorem azQ{b:Bool}{ks:List Mk}(h:∀k∈ks,k.sp=true/\k.wk=b/\k.ok):∀k∈at1 b (orM (plK ks)),k.sp=true/\k.wk=b/\k.ok:=by
 have hp:=aKI h
 have h0:0<=orM (plK ks):=aeD fun m hm=>(hp m hm).1
 intro k hk
 unfold at1 at hk
 split at hk
 ·cases hk
 ·split at hk
  ·rename_i hb
   rw[bL.mp hk,hb]
   have e:(2:Int)^7=128:=by decide
   have:=axA (n:=7) (ms:=plK ks) fun m hm=>⟨(hp m hm).1,by have:=(hp m hm).2 hb;omega⟩
   exact⟨rfl,rfl,h0,by omega⟩
  ·rename_i hb
   rw[bL.mp hk]
   exact⟨rfl,by cases b with | true=>exact absurd rfl hb | false=>rfl,h0⟩
noncomputable abbrev Ws(b:Bool):List (List Nat)->List Mk->Prop:=Paired fun w k=>Cl w/\SpT b w k
noncomputable def lo_(b:Bool):Int:=if b=true then 0 else 1
noncomputable def hi_(b:Bool):Int:=if b=true then 7 else 31
theorem ay2(k:Mk)(ks:List Mk):plK (k::ks)=(match k.pl with | some m=>m::plK ks | none=>plK ks)/\otK (k::ks)=(match k.pl with | some _=>otK ks | none=>k::otK ks):=by
 unfold plK otK
 rw[cU,List.filter_cons]
 cases k.pl<;>exact⟨rfl,rfl⟩
theorem azF(b:Bool)(lo hi:Int)(w:List Nat)(ws:List (List Nat)):plP lo hi (w::ws)=(match aaJ lo hi w with | some m=>m::plP lo hi ws | none=>plP lo hi ws)/\mkP b lo hi (w::ws)=(match aaJ lo hi w with | some _=>mkP b lo hi ws | none=>match rdM b w with | some k=>k::mkP b lo hi ws | none=>mkP b lo hi ws):=by
 unfold plP mkP
 rw[cU,cU]
 cases aaJ lo hi w with
 |some m=>exact⟨rfl,rfl⟩
 |none=>exact⟨rfl,by cases rdM b w<;>rfl⟩
noncomputable def WsI(b:Bool)(ws:List (List Nat))(ks:List Mk):Prop:=mkP b (lo_ b) (hi_ b) ws=otK ks/\plK ks=(plP (lo_ b) (hi_ b) ws).map (fun m=>if b=true then wk7 m else m)/\(∀m∈plP (lo_ b) (hi_ b) ws,0<m/\(b=true->m<=255))/\∀w∈ws,(aaJ (lo_ b) (hi_ b) w).isSome=true∨(rdM b w).isSome=true
theorem ayK(b:Bool):∀{ws:List (List Nat)} {ks:List Mk},Ws b ws ks->WsI b ws ks
 |_,_,.nil=>⟨rfl,rfl,fun m hm=>(nomatch hm),fun w hw=>(nomatch hw)⟩
 |w::ws,k::ks,.cons r t=>by
  obtain⟨i1,i2,i3,i4⟩:=ayK b t
  have c1:=ay2 k ks
  have c2:=azF b (lo_ b) (hi_ b) w ws
  have plain:∀(m M:Int),k.pl=some m->aaJ (lo_ b) (hi_ b) w=some M->(m=if b=true then wk7 M else M)->(0<M/\(b=true->M<=255))->WsI b (w::ws) (k::ks):=fun m M e1 e2 e3 e4=>by
   unfold WsI
   rw[e1] at c1
   rw[e2] at c2
   rw[c1.1,c1.2,c2.1,c2.2]
   refine⟨i1,by rw[bD,←e3,←i2],fun z hz=>?_,fun v hv=>?_⟩
   ·rcases bB.mp hz with rfl | hz
    ·exact e4
    ·exact i3 z hz
   ·rcases bB.mp hv with rfl | hv
    ·exact .inl (by rw[e2];rfl)
    ·exact i4 v hv
  have mark:k.pl=none->aaJ (lo_ b) (hi_ b) w=none->rdM b w=some k->WsI b (w::ws) (k::ks):=fun e1 e2 e3=>by
   unfold WsI
   rw[e1] at c1
   rw[e2,e3] at c2
   rw[c1.1,c1.2,c2.1,c2.2]
   refine⟨by rw[i1],i2,i3,fun v hv=>?_⟩
   rcases bB.mp hv with rfl | hv
   ·exact .inr (by rw[e3];rfl)
   ·exact i4 v hv
  cases k with
  |num m=>
   obtain⟨_,hb,hr,h0⟩:=r
   subst hb
   exact plain m m rfl hr rfl ⟨h0,fun z=>nomatch z⟩
  |wkd m=>
   obtain⟨_,hb,M,hr,h0,hm⟩:=r
   subst hb
   exact plain m M rfl hr hm ⟨h0.1,fun _=>h0.2⟩
  |lst z=>exact mark rfl r.2.1 r.2.2
  |nea z=>exact mark rfl r.2.1 r.2.2
  |wrk=>exact mark rfl r.2.1 r.2.2
  |nth z y=>exact mark rfl r.2.1 r.2.2
  |one z=>exact mark rfl r.2.1 r.2.2
  |nil=>exact r.2.elim
theorem axH{b:Bool}{ws:List (List Nat)}{ks:List Mk}{l:List Nat}(h:Ws b ws ks)(hl:spl 44 l=ws):ajU b (lo_ b) (hi_ b) l=ayW b ks:=by
 obtain⟨i1,i2,i3,_⟩:=ayK b h
 have hz:∀m∈plP (lo_ b) (hi_ b) ws,0<=m:=fun m hm=>bJ (i3 m hm).1
 unfold ajU ayW
 rw[hl,i1,i2]
 congr 1
 cases b with
 |false=>
  have e:(plP (lo_ false) (hi_ false) ws).map (fun m=>if false=true then wk7 m else m)=plP (lo_ false) (hi_ false) ws:=List.map_id'' (fun _=>rfl) _
  rw[e]
  rfl
 |true=>
  have e:orM ((plP (lo_ true) (hi_ true) ws).map (fun m=>if true=true then wk7 m else m))=wk7 (orM (plP (lo_ true) (hi_ true) ws)):=(awR hz).symm
  rw[e]
  unfold afU at1
  by_cases c:orM (plP (lo_ true) (hi_ true) ws)=0
  ·rw[if_pos c,c]
   rfl
  ·have c2:¬wk7 (orM (plP (lo_ true) (hi_ true) ws))=0:=fun z=>c (by
    rw[awR hz] at z
    have h0:∀m∈(plP (lo_ true) (hi_ true) ws).map wk7,0<=m:=fun m hm=>by
     obtain⟨y,hy,rfl⟩:=bS.mp hm
     exact (afV (hz y hy) 0).1
    rw[aqQ hz]
    intro m hm
    have:=(aqQ h0).mp z (wk7 m) (bS.mpr ⟨m,hm,rfl⟩)
    exact absurd this (aA3 (i3 m hm).1 ((i3 m hm).2 rfl)).1)
   rw[if_neg c,if_neg c2]
   rfl
theorem none_of{H H':Hp}(s:Same H H'){p:Addr}(h:H' p=none):H p=none:=by
 cases e:H p with
 |none=>rfl
 |some o=>rw[s _ _ e] at h;cases h
theorem acX:∀(ws:List (List Nat)),(∀w∈ws,w.length<=8)->(aa1 44 ws).length<=9*ws.length
 |[],_=>bO _
 |[w],h=>by
  have:=h w (bX ..)
  show w.length<=9
  omega
 |w::v::ws,h=>by
  have ih:=acX (v::ws) fun z hz=>h z (bY _ hz)
  have:=h w (bX ..)
  show (w++44::aa1 44 (v::ws)).length<=_
  rw[aW,bU,bU]
  omega
theorem Ws.cl{b:Bool}:∀{ws:List (List Nat)} {ks:List Mk},Ws b ws ks->∀w∈ws,Cl w
 |_,_,.nil,w,hw=>nomatch hw
 |_,_,.cons r t,w,hw=>by
  rcases bB.mp hw with rfl | hw
  ·exact r.1
  ·exact Ws.cl t w hw
theorem aBU{b:Bool}{ws:List (List Nat)}{ks:List Mk}(h:Ws b ws ks)(hne:ws≠[])(hn:ws.length<=20):spl 44 (aa1 44 ws)=ws/\ItemsOk b (lo_ b) (hi_ b) (aa1 44 ws):=by
 have hs:=aeB 44 ws hne fun w hw=>(h.cl w hw).1.1
 have hl:=acX ws fun w hw=>(h.cl w hw).2.2
 refine⟨hs,by omega,by rw[hs];omega,?_,?_⟩
 ·rw[hs]
  exact (ayK b h).2.2.2
 ·rw[hs]
  exact bI (List.length_filterMap_le ..) hn
noncomputable def PrT(H:Hp)(ts:List Addr)(prs:List (Nat×Nat)):Prop:=Paired (fun (t:Addr) (pr:Nat×Nat)=>H t=some (.tup [.int pr.1,.int pr.2])) ts prs
theorem PrT.keep{H H':Hp}{ts:List Addr}{prs:List (Nat×Nat)}(h:PrT H ts prs)(k:Keep H H'):PrT H' ts prs:=Paired.mapP h fun _ _ z=>k.tup z
theorem Paired.at{α β:Type}{F:α->β->Prop}:∀{l:List α} {r:List β} {i:Nat} {a:α},Paired F l r->l[i]? =some a->∃b,r[i]? =some b/\F a b
 |_,_,_,_,.nil,e=>by simp at e
 |_,_,0,_,.cons h _,e=>by
  have:=bA e
  subst this
  exact⟨_,rfl,h⟩
 |_,_,i+1,_,.cons _ t,e=>Paired.at (i:=i) t e
noncomputable def rt(x:Nat×Nat):List Nat:=if x.1=x.2 then num x.1 else num x.1++45::num x.2
theorem awV{x:Int}(h0:0<=x){n:Nat}(h:∀i,tb x i=true->i<n):x<2^n:=by
 have e:mk_ (tb x) n=x:=acE (atZ _ _) h0 fun i=>by
  rw[atU]
  cases c:tb x i
  ·simp
  ·simp[h i c]
 rw[←e]
 exact awX _ _
theorem aqT{α:Type}{p q:α->Bool}:∀{l:List α},(∀x∈l,p x=q x)->l.any p=l.any q
 |[],_=>rfl
 |x::r,h=>by rw[cH,cH,h x (bX ..),aqT fun y hy=>h y (bY _ hy)]
theorem aqY{b:Bool}{ks:List Mk}(h:∀k∈ks,k.sp=true/\k.wk=b/\k.ok):∀k∈ayW b ks,k.sp=true/\k.wk=b/\k.ok:=fun k hk=>by
 rcases bM.mp hk with z | z
 ·exact azQ h k z
 ·exact h k ((List.mem_filter.mp z).1)
end KM
namespace L2
open PySem PySem.Spec PyProof.Rows
section
variable{X:Cx}{f:Addr}{k k':Nat}{ps:List Str}{sp:Sp}{x y e:Expr}{es:List Expr}{t:TA}{tv:TE}{p pos:Pos}
end
section
variable{X:Cx}{C:Addr}{m:Str}{k k':Nat}{ps:List Str}{sp:Sp}{o:Expr}{ta:TE}{apos pos:Pos}
end
section
variable{X:Cx}{body:List Stmt}{tb:TS}{h:ExceptHandler}{hs:List ExceptHandler}{pos:Pos}
theorem aGW(hb:Ss X.nox body tb):S X (.Try body (h::hs) [] [] pos) tb:=by
 refine⟨fun pins s σ H D I hw=>?_⟩
 refine wpAny_Try_except (dN (hb.h pins s σ H D (I.wish _) hw) (fun f s1 q=>?_) fun e s1 hx=>False.elim hx)
 cases f with
 |next=>exact wpAny_execs_nil q.unwish
 |ret v=>exact q.unwish
 |brk=>exact q.unwish
 |cont=>exact q.unwish
end
section
variable{js:List Nat}{σ:St}{tt:TT}{te:TE}{Q:VK}{H1:Hp}
theorem asO{K K':FG}{a:Addr}{xs:List V}(R:Addr->Nat->List V->Hp->Prop)(hm:∀D i l H l',R D i l H->R D i l (upd H D (.lst l')))(hS:∀D i l H H',Same H H'->R D i l H->R D i l H')(hn:xs.length<=sizeLine)(h0:∀D,H1 D=none->R D 0 [] H1)(hq:SqL K H1 a xs)
  (hs:∀(i:Nat) (x:V) (l:List V) (D:Addr) (H2:Hp) (E:V->Hp->Prop) (F:Hp->Prop),xs[i]? =some x->R D i l H2->H1 D=none->Same H1 H2->H2 D=some (.lst l)->(∀y H5,Same H2 H5->R D (i+1) (l++[y]) H5->E y H5)->(∀H4,Same H2 H4->R D (i+1) l H4->F H4)->
   tt (some (.int i)::some x::aaZ js σ) H2 fun b H4=>if b=true then te (some (.int i)::some x::aaZ js σ) H4 E else F H4)
  (hd:∀(D:Addr) (H2:Hp) (l:List V),R D xs.length l H2->H1 D=none->Same H1 H2->H2 D=some (.lst l)->Q (.ref D) H2):
  awO (Ite K a) 2 js (ay1 K' 2 (auK (abV 0) (auK (abV 1) aDZ))) σ tt te Q H1:=by
 intro D hD
 refine⟨fun i m H2=>m=xs.length-i/\i<=xs.length/\Same H1 H2/\∃l,H2 D=some (.lst l)/\l.length<=i/\R D i l H2,⟨xs.length,by simp,bO _,aaB hD _,[],aaA,aS _,hm _ _ _ _ _ (h0 D hD)⟩,?_⟩
 rintro i m H2 ⟨rfl,hi,s2,l,h2,hll,hR⟩
 by_cases hlt:i<xs.length
 ·refine .inr ⟨⟨xs,xs[i],s2.seq hq,by simp[hlt]⟩,fun v H3 y τ hτ=>?_⟩
  obtain⟨T,rfl,hT,ev⟩:=y
  obtain⟨x,hx,rfl⟩:=ev xs (s2.seq hq)
  have sT:=aaB hT (.tup [.int i,x])
  have s3:=s2.trans sT
  have h3:=sT _ _ h2
  obtain⟨t0,t1,rfl⟩:∃t0 t1,τ=[t0,t1]:=by
   match τ,hτ with
   |[a,b],_=>exact⟨a,b,rfl⟩
  have h:=hs i x l D _ (fun y H5=>∃ys,H5 D=some (.lst ys)/\ys.length<sizeLine/\∃m',m'<xs.length-i/\(m'=xs.length-(i+1)/\i+1<=xs.length/\Same H1 (upd H5 D (.lst (ys++[y])))/\∃l,(upd H5 D (.lst (ys++[y]))) D=some (.lst l)/\l.length<=i+1/\R D (i+1) l (upd H5 D (.lst (ys++[y]))))) (fun H4=>∃m',m'<xs.length-i/\(m'=xs.length-(i+1)/\i+1<=xs.length/\Same H1 H4/\∃l,H4 D=some (.lst l)/\l.length<=i+1/\R D (i+1) l H4)) hx (hS _ _ _ _ _ sT hR) hD s3 h3
   (fun z H5 s5 r5=>by
    refine⟨l,s5 _ _ h3,dD hll (aZ hlt hn),xs.length-(i+1),by omega,rfl,hlt,fun b o hb=>?_,l++[z],aaA,by rw[aW,bV];omega,hm _ _ _ _ _ r5⟩
    rw[aaF (aaI hb hD)]
    exact s5 _ _ (s3 _ _ hb))
   (fun H4 s4 r4=>⟨xs.length-(i+1),by omega,rfl,hlt,s3.trans s4,l,s4 _ _ h3,by omega,r4⟩)
  exact⟨T,[.int i,x],rfl,SqT.of aaA,rfl,.int i,[x],rfl,x,[],rfl,rfl,⟨[some (.int i),some x],rfl,rfl⟩,h⟩
 ·have e:i=xs.length:=by omega
  subst e
  exact .inl ⟨⟨xs,s2.seq hq,rfl⟩,hd D H2 l hR hD s2 h2⟩
end
noncomputable def KD(K:FG)(a:Addr)(kvs:List (Int×V)):Prop:=
 ∃(es:Array DictEntry) (ep:Nat) (vs:List (Key×Value)),K.lookup a=some ⟨.type "dict",none,.dict es ep,#[]⟩/\KV (kvs.map fun x=>((Sum.inl x.1:Key),x.2)) vs/\(vs.map (·.1)).Nodup/\∀(P:Program) (w:World),KeysOf (aa6 P w) es/\PySem.Pairs (aa6 P w) es.toList vs
noncomputable def aCF(K:FG)(td ty:TE):TE:=fun σ H Q=>td σ H fun x H1=>ty σ H1 fun y H2=>∃a kvs k v,x=.ref a/\KD K a kvs/\y=.int k/\kvs.lookup k=some v/\Q v H2
theorem aBS{k:Int}{v:V}:∀{kvs:List (Int×V)} {vs:List (Key×Value)},KV (kvs.map fun x=>((Sum.inl x.1:Key),x.2)) vs->kvs.lookup k=some v->∃w',valueAt vs (Sum.inl k:Key)=some w'/\RelV v w'
 |[],_,_,h=>by cases h
 |(k0,v0)::r,_,.cons (b:=(k1,w1)) h t,hl=>by
  obtain⟨e1,e2⟩:=h
  have e1:(Sum.inl k0:Key)=k1:=e1
  subst e1
  rw[cZ] at hl
  unfold valueAt
  by_cases c:k=k0
  ·subst c
   rw[show (k==k)=true from beq_self_eq_true k] at hl
   cases hl
   refine⟨w1,?_,e2⟩
   rw[List.find?_cons_of_pos (by simp)]
   rfl
  ·rw[show (k==k0)=false from beq_false_of_ne c] at hl
   obtain⟨w',h1,h2⟩:=aBS t hl
   refine⟨w',?_,h2⟩
   rw[List.find?_cons_of_neg (by simp;exact fun z=>c z.symm)]
   exact h1
section
variable{X:Cx}{o i:Expr}{td ty:TE}{pos:Pos}
theorem eDgK(ho:E X o td)(hi:E X i ty)(hs:ay3 i:=by intro _ _;rfl):E X (.Subscript o i pos) (aCF X.K td ty):=by
 refine⟨fun pins s σ H Q I h=>?_⟩
 refine auQ PySem.F.slot_dict_getitem.lookup hs (thn (ho.h pins s σ H _ I h) fun u s1 ⟨x,H1,I1,rx,q1⟩=>thn (hi.h pins s1 σ H1 _ I1 q1) fun iv s2 ⟨y,H2,I2,ry,a,kvs,k,v,ex,hk,ey,l,q2⟩=>?_)
 subst ex
 subst ey
 obtain rfl:u=Value.ref a:=rx
 obtain⟨es,ep,vs,lk,kv,nd,kp⟩:=hk
 obtain⟨k1,k2⟩:=kp X.prog X.w
 have dd:s2.heap.DictOf (aa6 X.prog X.w) a vs:=⟨_,es,ep,I2.kIn _ _ lk,⟨rfl,rfl,rfl⟩,rfl,k1,k2,nd⟩
 obtain⟨w',hw,rw'⟩:=aBS kv l
 exact⟨dd.typeIs,wpAny_getItem_of (ap6 (k:=Sum.inl k) ry) dd.mapOf hw ⟨v,H2,I2.tok _,rw',q2⟩⟩
end
end L2
namespace KM
open PySem PySem.Spec PyProof.Rows L2
theorem awE{ks:List Mk}{l f:Int}(h:Lf l f)(o:∀k∈ks,k.ok):0<=orK ks l f:=aeD fun m hm=>by
 obtain⟨k,hk,rfl⟩:=bS.mp hm
 exact ax7 (o k hk) h
noncomputable def DV(c:Cs)(H:Hp)(v:V):Option (List Mk)->Prop
 |none=>v=.non
 |some ks=>∃p qs,v=.ref p/\H p=some (.lst (qs.map V.ref))/\Ft (MkAt c H) qs ks/\∀k∈ks,k.ok
theorem DV.keep{c:Cs}{H H':Hp}(s:Same H H'){v:V}:∀{ko:Option (List Mk)},DV c H v ko->DV c H' v ko
 |none,h=>h
 |some _,⟨p,qs,e,h1,h2,h3⟩=>⟨p,qs,e,s _ _ h1,h2.keepM s.keep,h3⟩
noncomputable def orO(ko:Option (List Mk))(a l f:Int):Int:=match ko with
 |none=>a
 |some ks=>Builtin.bitOr a (orK ks l f)
noncomputable def abK(kd kw:Option (List Mk))(l f:Int):Int:=if kd.isNone=true/\kw.isNone=true then 2*2^l.toNat-2 else orO kw (orO kd 0 l f) l f
noncomputable def DT(b:Bool)(t:List Nat)(ko:Option (List Mk)):Prop:=(32∉t/\t≠[])/\ItemsOk b (lo_ b) (hi_ b) t/\match ko with
 |none=>t=[42]
 |some ks=>t≠[42]/\(∀k∈ks,k.sp=true/\k.wk=b/\k.ok)/\ajU b (lo_ b) (hi_ b) t=ayW b ks
noncomputable def gO(b:Bool):Option (List Mk)->Option (List Mk)
 |none=>none
 |some ks=>some (ayW b ks)
theorem ahA{c d:Nat}(hcd:c≠d):∀{ws:List (List Nat)},(∀w∈ws,c∉w)->c∉aa1 d ws
 |[],_=>List.not_mem_nil
 |[w],h=>h w (bX ..)
 |w::v::ws,h=>by
  show c∉w++d::aa1 d (v::ws)
  rw[bM,bB,not_or,not_or]
  exact⟨h w (bX ..),hcd,ahA hcd fun z hz=>h z (bY _ hz)⟩
theorem at0:∀{ws:List (List Nat)},ws≠[]->(∀w∈ws,w≠[])->∀d,aa1 d ws≠[]
 |[],h,_,_=>absurd rfl h
 |[w],_,h,_=>h w (bX ..)
 |w::v::ws,_,h,d=>fun e=>by
  have e:w++d::aa1 d (v::ws)=[]:=e
  rw[List.append_eq_nil_iff] at e
  cases e.2
theorem agL(b:Bool):DT b [42] none:=by
 refine⟨by decide,?_,rfl⟩
 have c:Cl [42]/\SpT b [42] (if b=true then .wkd 127 else .num 4294967294):=by
  cases b with
  |true=>exact⟨by decide,rfl,255,by decide +kernel,by decide,by decide +kernel⟩
  |false=>exact⟨by decide,rfl,by decide +kernel,by decide⟩
 exact (aBU (.cons c .nil:Ws b [[42]] _) (c9 _ _) (by show 1<=20;decide)).2
structure FT(lo hi:Int)(t:List Nat)(m:Int):Prop where
 ok:auG lo hi t
 len:t.length<=300
 is:orM (ac8 lo hi t)=m
 sp:32∉t
 ne:t≠[]
 nn:0<=m
theorem apN{lo hi:Int}{ws:List (List Nat)}{nss:List (List Int)}(h:Paired (adP lo hi) ws nss)(hne:ws≠[])(hn:ws.length<=20):FT lo hi (aa1 44 ws) (abA nss.flatten):=by
 have all:∀{ws:List (List Nat)} {nss:List (List Int)},Paired (adP lo hi) ws nss->(∀w∈ws,Cl w/\(aaJ lo hi w).isSome=true)/\(ws.map fun w=>(aaJ lo hi w).getD 0)=nss.map abA:=by
  intro ws nss h
  induction h with
  |nil=>exact⟨fun w hw=>(nomatch hw),rfl⟩
  |cons r t ih=>
   refine⟨fun w hw=>?_,?_⟩
   ·rcases bB.mp hw with z | z
    ·subst z;exact⟨r.2.1,by rw[r.1];rfl⟩
    ·exact ih.1 w z
   ·rw[bD,bD,ih.2,r.1];rfl
 have a:=all h
 have hs:=aeB 44 ws hne fun w hw=>(a.1 w hw).1.1.1
 have hl:=acX ws fun w hw=>(a.1 w hw).1.2.2
 refine⟨⟨by rw[hs];omega,by rw[hs];exact fun w hw=>(a.1 w hw).2⟩,by omega,?_,ahA (by decide) fun x hx=>(a.1 x hx).1.1.2,at0 hne (fun x hx=>(a.1 x hx).1.2.1) 44,ad8 _⟩
 unfold ac8
 rw[hs,a.2]
 have nn:∀m∈nss.map abA,0<=m:=fun m hm=>by
  obtain⟨z,_,rfl⟩:=bS.mp hm
  exact ad8 _
 refine acE (aeD nn) (ad8 _) fun i=>?_
 rw[adC nn,agH,List.any_map,List.any_flatten]
 exact aqT fun z _=>agH z i
end KM
namespace L2
open PySem PySem.Spec PyProof.Rows
section
open PySem.W Builtin Builtin.ObjectAttr
variable{prog:Program}{w:World}{A:Around}{E:Value->Shared->Prop}{s:Shared}{K:FG}{x C:Addr}{f:Str}{v:Value}{o:Obj}{vs:Array Value}
end
noncomputable def PY(e C:Addr)(d:Option Addr)(h:Heap):Prop:=∃(vs:Array Value) (sl:Array (Option Value)),h.get? e=some ⟨.ref C,d,.fields vs,sl⟩/\vs[1]? =some .none/\vs[2]? =some .none/\4<vs.size
noncomputable def xn(a C:Addr)(d:Option Addr):HO:=.ext (PY a C d)
theorem PY.ok{P:Program}{w:World}{H:Hp}{h:Heap}{a C:Addr}{d:Option Addr}(x:PY a C d h):ObjOk P w H h a (xn a C d):=by
 obtain⟨vs,sl,e,r⟩:=id x
 exact⟨x,⟨_,e⟩,fun h1 h2 ⟨vs,sl,e,r⟩ k=>⟨vs,sl,k _ e,r⟩⟩
section
variable{X:Cx}{pins:List (Addr×Obj)}{σ:St}{H:Hp}{s:Shared}{a C:Addr}{f:Str}
end
section
variable{X:Cx}{o e value:Expr}{ta tv:TE}{f:Str}{pos pos':Pos}
end
section
open PySem.W
variable{prog:Program}{w:World}{A:Around}{E:Value->Shared->Prop}{s:Shared}{K:FG}{C fI:Addr}
end
section
variable{X:Cx}{pins:List (Addr×Obj)}{σ:St}{H:Hp}{s:Shared}
end
section
variable{prog:Program}{w:World}{A:Around}{E:Value->Shared->Prop}{s:Shared}{env:Env}
end
section
variable{X:Cx}{E:XK}{x:Str}{C:Addr}{e:Expr}{es:List Expr}{t:TA}{np cpos pos:Pos}{k k':Nat}{ps:List Str}{sp:Sp}
end
structure RoomQ(k:Nat)(A:Around):Prop where
 dp:A.depth+3*k+5<recursionLimit
 un:A.units+16*k+200<cLine
theorem Room.q{k:Nat}{A:Around}(r:Room k A):RoomQ k A:=⟨r.dp,r.un⟩
section
variable{P:Program}{w:World}{K:FG}{mg:Str->Option Value}{base:Heap}{N ps:List Str}{qual:Str}{scope:Scope}{f:Addr}{cd:Value}{A:Around}{outer:List Env}{s s1:Shared}{H:Hp}{us:List Value}{vs:List V}
end
section
variable{P:Program}{w:World}{K:FG}{mg:Str->Option Value}{base:Heap}{x:Str}{st:Stmt}{ps N:List Str}{k:Nat}{sp:Sp}
end
section
variable{X:Cx}{k k':Nat}{ps:List Str}{sp:Sp}{x:Str}{e:Expr}{es:List Expr}{tA:TA}{p pos:Pos}
end
section
variable{X:Cx}{f:Addr}{k k':Nat}{ps:List Str}{sp:Sp}{x y e:Expr}{es:List Expr}{tA:TA}{tv:TE}{p pos:Pos}{t u:TX}
end
section
variable{M:Model}{A:Around}{E:Value->Shared->Prop}{s:Shared}{f:Obj->Prop}{B:Heap}{env:Env}{outer:List Env}{L e:Addr}{fl:Value}{Q:Unit->Shared->Prop}
end
section
variable{P:Program}{w:World}{K:FG}{mg:Str->Option Value}{base:Heap}{N:List Str}{qual:Str}{scope:Scope}{f:Addr}{cd:Value}{A:Around}{outer:List Env}{s0:Shared}{H0:Hp}{E:XK}
end
section
variable{X:Cx}{elt iter tg:Expr}{xs:List Str}{pos:Pos}{ifs:List Expr}{scope:Scope}{cl:List (Str×Addr)}{N':List Str}{js:List Nat}{tt:TT}{g:TG}{wi:TI}
end
section
variable{P:Program}{w:World}{K:FG}{mg:Str->Option Value}{base:Heap}{N:List Str}{qual:Str}{scope0:Scope}{f:Addr}{cd:Value}{A:Around}{outer:List Env}{s0:Shared}{H0:Hp}{E:XK}
variable{elt iter tg:Expr}{pos:Pos}{ifs:List Expr}{scope:Scope}{js:List Nat}{tt:TT}{te:TX}{g:TG}{wi:TI}
end
section
variable{js:List Nat}{σ:St}{tt:TT}{te:TX}{E:XK}{Q:VK}{H1:Hp}
end
section
variable{P:Program}{w:World}{K:FG}{mg:Str->Option Value}{base:Heap}{m qual:Str}{st:Stmt}{ps N:List Str}{k:Nat}{sp:Sp}{C:Addr}
end
section
variable{X:Cx}{pins:List (Addr×Obj)}{σ:St}{H:Hp}{s:Shared}
end
section
variable{X:Cx}{E:XK}{x:Str}{C a:Addr}{e:Expr}{es:List Expr}{t:TA}{np cpos pos p2:Pos}{j k k':Nat}{ps:List Str}{sp:Sp}
end
theorem RoomQ.units{k:Nat}{A:Around}(r:RoomQ k A):A.units+64<cLine:=by have:=r.un;omega
section
variable{prog:Program}{w:World}{A:Around}{E:Value->Shared->Prop}{s:Shared}
end
section
variable{X:Cx}{elt iter:Expr}{x:Str}{px pos:Pos}{ifs:List Expr}{scope:Scope}{cl:List (Str×Addr)}{N':List Str}{js:List Nat}{tt:TT}{te:TE}
end
section
variable{X:Cx}{elt a1:Expr}{x:Str}{px pos p rpos:Pos}{ifs:List Expr}{scope:Scope}{js:List Nat}{tt:TT}{te:TE}{tA:TA}
end
section
variable{X:Cx}{pins:List (Addr×Obj)}{σ:St}{H:Hp}{s:Shared}
end
section
variable{X:Cx}{body suite:List Stmt}{b0:Stmt}{tb:TB}{th:Addr->TS}{cx n:Str}{np hpos pos:Pos}{CF:Addr}
end
section
variable{X:Cx}{E:XK}{x:Str}{C:Addr}{np cpos pos:Pos}
end
end L2
namespace L2
open PySem PySem.Spec PyProof.Rows PySem.SeqAt
section
variable{X:Cx}
end
section
variable{P:Program}{w:World}{K:FG}{mg:Str->Option Value}{base:Heap}{m qual:Str}{st:Stmt}{ps N:List Str}{k:Nat}{sp:Sp}{C:Addr}
end
section
variable{X:Cx}{x:Str}{C:Addr}{k k':Nat}{ps:List Str}{sp:Sp}{e:Expr}{es:List Expr}{t:TA}{p pos:Pos}{E:XK}
end
end L2
namespace L2
open PySem PySem.Spec PyProof.Rows PySem.SeqAt
section
variable{X:Cx}{m:Str}{C:Addr}{k:Nat}{ps:List Str}{sp:Sp}{o:Expr}{ta:TE}{pos apos:Pos}
end
section
variable{X:Cx}
end
theorem azS{K:FG}{H H':Hp}{v:V}{t:Value}(s:Same H H')(h:TyOf K H v t):TyOf K H' v t:=by
 cases h with
 |non=>exact .non
 |bl x=>exact .bl x
 |int i=>exact .int i
 |str x=>exact .str x
 |flt x=>exact .flt x
 |lst e=>exact .lst (s _ _ e)
 |frz e=>exact .frz (s _ _ e)
 |tup e=>exact .tup (s _ _ e)
 |dK e=>exact .dK (s _ _ e)
 |dT e=>exact .dT (s _ _ e)
 |ins e c a n k m=>exact .ins (s _ _ e) c a n k m
noncomputable def IsB(K:FG)(C:Addr)(H:Hp)(v:V)(b:Bool):Prop:=∃t,TyOf K H v t/\PySem.W.kitOne K t (.ref C)=some b
theorem IsB.keep{K:FG}{C:Addr}{H H':Hp}{v:V}{b:Bool}(h:IsB K C H v b)(s:Same H H'):IsB K C H' v b:=by
 obtain⟨t,h1,h2⟩:=h
 exact⟨t,azS s h1,h2⟩
noncomputable def tCut(t u:TS):TS:=fun D σ H=>∃I:St->Hp->Prop,t {D with nx:=I} σ H/\∀σ' H',I σ' H'->u D σ' H'
theorem ssK{X:Cx}{st:Stmt}{rest:List Stmt}{t u:TS}(h1:S X st t)(h2:Ss X rest u):Ss X (st::rest) (tCut t u):=by
 refine⟨fun pins s σ H D I h=>?_⟩
 obtain⟨J,h,hJ⟩:=h
 refine wpAny_execs_cons (thn (h1.h pins s σ H {D with nx:=J} I h) fun f s1 q=>?_)
 cases f with
 |next=>
  obtain⟨σ',H',I',q⟩:=q
  exact h2.h pins s1 σ' H' D I' (hJ _ _ q)
 |ret v=>exact q
 |brk=>exact q
 |cont=>exact q
theorem Digs.five{ds:List Int}{a b c d e:Int}(h:Digs ds [a,b,c,d,e]):∃x0 x1 x2 x3 x4:Int,ds=[x0,x1,x2,x3,x4]/\(0<=x0/\x0<a)/\(0<=x1/\x1<b)/\(0<=x2/\x2<c)/\(0<=x3/\x3<d)/\0<=x4/\x4<e:=by
 match ds,h with
 |[x0,x1,x2,x3,x4],.cons h0 (.cons h1 (.cons h2 (.cons h3 (.cons h4 .nil))))=>exact⟨x0,x1,x2,x3,x4,rfl,h0,h1,h2,h3,h4⟩
theorem azU{X:Cx}{x y:Str}{a b:Expr}{ta:TA}{px py pt pos:Pos}{kt k2 pt2}(i j:Nat)(ha:As X [a,b] ta)(hN:X.N.Nodup)(hc:X.calm=true:=by rfl)(hi:X.N[i]? =some x:=by rfl)(hj:X.N[j]? =some y:=by rfl)(hij:i≠j:=by decide)
  (hx:X.env.scope.names.lookup x=some .local:=by rfl) (hy:X.env.scope.names.lookup y=some .local:=by rfl)
  (hw:swappedStores [.Tuple [.Name x px,.Name y py] kt pt] (.Tuple [a,b] k2 pt2) X.env=pure (some [x,y]):=by rfl)
  (hs:swapsWithSole [.Tuple [.Name x px,.Name y py] kt pt] (.Tuple [a,b] k2 pt2) pos.line X.env=pure false:=by rfl):
  S X (.Assign [.Tuple [.Name x px,.Name y py] kt pt] (.Tuple [a,b] k2 pt2) pos) (aGN i j ta):=⟨aCJ hc hN hi hj hij hx hy ha.h hw hs⟩
section
variable{X:Cx}{es:List Expr}{kk:Nat}{tpos:Pos}
end
section
variable{js:List Nat}{σ:St}{tt:TT}{te:TE}{Q:VK}{H1:Hp}
end
theorem eFlc{X:Cx}{K:FG}{e:Expr}{f:Str}{ta:TE}{pos:Pos}(he:E X e ta)(hK:X.K=K:=by rfl)(hb:attributeBase e f X.env (eval e X.env)=eval e X.env:=by rfl):E X (.Attribute e f pos) (aDR K ta f):=hK▸eFl he hb
section
variable{js:List Nat}{σ:St}{tt:TT}{te:TE}{Q:VK}{H1:Hp}
end
section
variable{prog:Program}{w:World}{A:Around}{E:Value->Shared->Prop}{s:Shared}
end
section
variable{X:Cx}{es:List Expr}{kk:Nat}{tpos:Pos}
end
theorem oNeE{X:Cx}(hu:X.A.units+64<cLine):Op2 X (compareOp .NotEq) (fun x y H Q=>∃(a b:Addr) (vs:List V),x=.ref a/\y=.ref b/\SqL X.K H a vs/\SqL X.K H b []/\Q (.bl (decide (vs≠[]))) H):=by
 refine⟨fun pins s σ H x y v u Q I rx ry h=>?_⟩
 obtain⟨a,b,vs,rfl,rfl,ha,hb,q⟩:=h
 cases rx
 cases ry
 obtain⟨its,rv,pl,_⟩:=I.list ha
 obtain⟨its',rv',pl',_⟩:=I.list hb
 cases rv'
 have e:=rv.length
 cases vs with
 |nil=>
  cases rv
  refine SeqAt.RcNeAt.lists (e:=fun _=>true) pl.isList pl'.isList rfl (by omega) (fun i h1 h2=>SeqAt.EqAt.same _) _ _ _ _ ?_
  exact⟨.bl false,H,I,by show Value.bool _=Value.bool false;congr 1,q⟩
 |cons v0 vs=>
  refine SeqAt.RcNeAt.lists_lengths pl.isList pl'.isList (by rw[bG,←e];rfl) (by omega) _ _ _ _ ?_
  exact⟨.bl true,H,I,rfl,q⟩
end L2
namespace L2
open PySem PySem.Spec PyProof.Rows PySem.SeqAt
noncomputable abbrev Tri:=Int×Int×Int
noncomputable def az7(p:Tri):PyData:=.tuple [.int p.1,.int p.2.1,.int p.2.2]
noncomputable def aC1(l:List Tri):PyData:=.list (l.map az7)
section
variable{X:Cx}
theorem aBG:∀ns ms:List Tri,PySem.Spec.sameAll (ns.map az7) (ms.map az7)=decide (ns=ms)
 |[],[]=>by simp[PySem.Spec.sameAll]
 |[],_::_=>by simp[PySem.Spec.sameAll]
 |_::_,[]=>by simp[PySem.Spec.sameAll]
 |(a,b,c)::r,(x,y,z)::q=>by
  simp only[bD,az7,PySem.Spec.sameAll,PySem.Spec.same,aBG r q]
  by_cases h1:a=x<;>by_cases h2:b=y<;>by_cases h3:c=z<;>simp[h1,h2,h3]
theorem abU:∀ns ms:List (List Tri),PySem.Spec.sameAll (ns.map aC1) (ms.map aC1)=decide (ns=ms)
 |[],[]=>by simp[PySem.Spec.sameAll]
 |[],_::_=>by simp[PySem.Spec.sameAll]
 |_::_,[]=>by simp[PySem.Spec.sameAll]
 |a::r,b::q=>by
  simp only[bD,aC1,PySem.Spec.sameAll,PySem.Spec.same,aBG a b,abU r q]
  by_cases h1:a=b<;>simp[h1]
end
section
variable{X:Cx}
end
noncomputable def SameBut(S:Addr->Prop)(H H':Hp):Prop:=∀b o,H b=some o->¬S b->H' b=some o
theorem SameBut.trans{S:Addr->Prop}{H H1 H2:Hp}(a:SameBut S H H1)(b:SameBut S H1 H2):SameBut S H H2:=fun c o h n=>b c o (a c o h n) n
theorem SameBut.seq{S:Addr->Prop}{K:FG}{H H':Hp}{a:Addr}{xs:List V}(e:SameBut S H H')(n:∀o,H a=some o->¬S a)(h:SqL K H a xs):SqL K H' a xs:=by
 rcases h with (h | ⟨o,h⟩) | h
 ·exact .inl (.inl (e _ _ h (n _ h)))
 ·exact .inl (.inr ⟨o,e _ _ h (n _ h)⟩)
 ·exact .inr h
theorem fsc{N P:List Str}{sc:Scope}(h1:sc.kind=.function:=by rfl)(h2:sc.isCoroutine=false:=by rfl)(h3:sc.isGenerator=false:=by rfl)(h4:N.Nodup:=by decide +kernel)(h5:N.take P.length=P:=by rfl)(h6:∀x∈P,sc.names.lookup x=some .local∨sc.names.lookup x=some .cell:=by decide +kernel)(h7:∀y∈sc.names,y.2≠ .free:=by decide +kernel):FnScope N P sc:=⟨h1,h2,h3,h4,h5,h6,h7⟩
theorem zL(n:Nat)(h:n<=100:=by decide):n<=sizeLine:=by rw[dO];omega
section
variable{X:Cx}
noncomputable def aGL(i j:Int):Prop:=0<=j/\j<=1000000/\i.natAbs<2^1440
theorem azV:OpR X (binaryOp .LShift) (rI aGL fun i j=>.int (i*2^j.toNat)):=opI fun i j _ _ _ _ _ hc q=>lshift_int hc.1 (by
 have hb:Builtin.Int.intBits i<=1440:=intBits_le hc.2.2
 have:=hc.2.1
 omega) q
theorem aBD:Op2 X (binaryOp .LShift) (rI aGL fun i j=>.int (i*2^j.toNat)):=⟨azV⟩
end
end L2
namespace L2
open PySem PySem.Spec PyProof.Rows PySem.W
noncomputable def abY(a:Addr)(o:Obj):HO:=.ext fun h=>h.get? a=some o
noncomputable def al4(c:Addr)(qual:Str):HO:=.ext fun h=>h.CodeRec (.ref c) qual
noncomputable def era(H:Hp)(a:Addr):Hp:=fun b=>if b=a then none else H b
theorem acH{H:Hp}{a:Addr}:era H a a=none:=if_pos rfl
theorem abI{H:Hp}{a b:Addr}(h:b≠a):era H a b=H b:=if_neg h
theorem ax2{H:Hp}{a b:Addr}{o:HO}(h:era H a b=some o):b≠a/\H b=some o:=by
 by_cases e:b=a
 ·rw[e,acH] at h;cases h
 ·rw[abI e] at h;exact⟨e,h⟩
section
variable{P:Program}{w:World}{H:Hp}{h:Heap}{a:Addr}{o:HO}
theorem HOk.era_(x:HOk P w H h)(no:∀z,H a≠some (.own z))(nt:∀xs,H a≠some (.tup xs)):HOk P w (era H a) h:=fun b u e=>by
 obtain⟨hb,e⟩:=ax2 e
 refine (x b u e).stay (fun _ _ _ q=>q) (fun c q=>?_) fun c xs q=>?_
 ·by_cases z:c=a
  ·exact absurd (z▸q) (no b)
  ·rw[abI z];exact q
 ·by_cases z:c=a
  ·exact absurd (z▸q) (nt xs)
  ·rw[abI z];exact q
theorem HOk.track(x:HOk P w H h)(hn:H a=none)(new:ObjOk P w (upd H a o) h a o):HOk P w (upd H a o) h:=fun b u e=>by
 by_cases hb:b=a
 ·subst hb;rw[aaA] at e;cases e;exact new
 ·rw[aaF hb] at e
  exact (x b u e).stay (fun _ _ _ q=>q) (fun c q=>by rw[aaF (aaI q hn)];exact q) fun c xs q=>by rw[aaF (aaI q hn)];exact q
theorem ap1{ob:Obj}(e:h.get? a=some ob):ObjOk P w H h a (abY a ob):=⟨e,⟨ob,e⟩,fun h1 h2 e1 k=>k _ e1⟩
theorem ajV{ob:Obj}(x:HOk P w H h)(e:H a=some (abY a ob)):h.get? a=some ob:=(x a _ e).1
theorem aD7{q:Str}(x:HOk P w H h)(e:H a=some (al4 a q)):h.CodeRec (.ref a) q:=(x a _ e).1
end
noncomputable def acO(P:Program)(w:World)(K:Frag)(mg:Str->Option Value)(base:Heap)(N:List Str)(qual:Str)(scope:Scope)(L f c':Addr)(cl:List (Str×Addr))(A:Around)(outer:List Env)(s:Shared)(H:Hp):Cx where
 prog:=P
 w:=w
 K:=K
 mg:=mg
 base:=base
 A:=A.deeper (envX qual scope L f (.ref c') cl)
 N:=N
 s₀:=s
 H₀:=H
 env:=envX qual scope L f (.ref c') cl
 outer:=outer
 stack:=envX qual scope L f (.ref c') cl::outer
 ex:=[]
 fn:=fun _=>false
 calm:=true
 pn:=[]
 xe:=fun _ _=>False
structure LamScope(x y:Str)(scope:Scope):Prop where
 kind:scope.kind=.function
 co:scope.isCoroutine=false
 gen:scope.isGenerator=false
 nocell:∀z∈scope.names,z.2≠ .cell
 par:scope.names.lookup x=some .local
 fre:scope.names.lookup y=some .free
 only:∀z∈scope.names,z.2=.free->z.1=y
 ne:x≠y
theorem auY{P:Program}{w:World}{K:Frag}{mg:Str->Option Value}{base:Heap}{x y:Str}{qual:Str}{scope:Scope}{f c' a:Addr}{A:Around}{outer:List Env}{s s1:Shared}{H:Hp}{u u0:Value}{v v0:V}{o0:Obj}{h1:Heap}{tk:Tok}
  (S:LamScope x y scope) (hd:A.handled=none) (e0:Env0 P w K mg base A outer s H) (ha:H a=some (abY a o0)) (ho:o0.data=.cell (some u0)) (r0:RelV v0 u0) (r:RelV v u)
  (hns:h1.Ns s.heap.objs.size (fun z=>[(x,u)].reverse.lookup z)) (hk:∀b o,s.heap.get? b=some o->h1.get? b=some o) (hs:s1={s with heap:=h1,toks:=tk}):
  Inv (acO P w K mg base [x,y] qual scope s.heap.objs.size f c' [(y,a)] A outer s (era H a)) [] [some v,some v0] (era H a) s1:=by
 subst hs
 have hao:=ajV e0.hok ha
 have noA:∀b:Addr,b∉(acO P w K mg base [x,y] qual scope s.heap.objs.size f c' [(y,a)] A outer s (era H a)).ex:=fun b z=>absurd (show b∈([]:List Addr) from z) (by simp)
 have one:∀z c,([(y,a)]:List (Str×Addr)).lookup z=some c->z=y/\c=a:=fun z c e=>by
  have m:=PySem.mem_of_lookup e
  have:=bL.mp m
  exact⟨congrArg Prod.fst this,congrArg Prod.snd this⟩
 have ly:([(y,a)]:List (Str×Addr)).lookup y=some a:=by simp
 have fr:∀b,H b=none->era H a b=none:=fun b e=>by
  by_cases z:b=a
  ·rw[z];exact acH
  ·rw[abI z];exact e
 have hok':HOk P w (era H a) s.heap:=e0.hok.era_ (fun z e=>by rw[ha] at e;cases e) (fun xs e=>by rw[ha] at e;cases e)
 have cell:h1.IsCell a (some u0):=⟨o0,hk _ _ hao,ho⟩
 refine⟨⟨e0.mod,S.kind,rfl,rfl,aS _,fun z1 z2 c q1 q2=>(one z1 c q1).1.trans (one z2 c q2).1.symm,fun z hz=>?_,(fun z c q _=>nomatch q),fun _=>hd,Around.frames_deeper e0.frames,.inr ⟨rfl,rfl⟩,fun b z=>absurd z (noA b),fun b o e=>⟨(e0.bs b o e).1,fr b (e0.bs b o e).2⟩,e0.bsz,fun b _ _=>noA b,fun b z=>absurd z (noA b),e0.funs,fun b hb=>fr b (e0.frf b hb)⟩,
  rfl,e0.bare,Un.kept hk,⟨_,hns,fun i z v' q1 q2 q3=>?_⟩,fun z c q=>?_,fr _ (e0.hok.fresh (aS _)),fun z c q=>?_,fun p hp=>absurd (show p∈([]:List (Addr×Obj)) from hp) (by simp),hok'.kept hk,rfl⟩
 ·have hz:scope.names.lookup z=some .cell∨scope.names.lookup z=some .free:=hz
  rcases hz with hz | hz
  ·exact absurd rfl (S.nocell _ (PySem.mem_of_lookup hz))
  ·have:=S.only _ (PySem.mem_of_lookup hz) rfl
   exact⟨a,by show ([(y,a)]:List (Str×Addr)).lookup z=_;rw[show z=y from this];exact ly⟩
 ·match i,q1,q2 with
  |0,q1,q2=>
   cases q1
   cases q2
   exact⟨u,r,.inl ⟨S.par,by show ([(x,u)]:List (Str×Value)).reverse.lookup x=some u;simp⟩⟩
  |1,q1,q2=>
   cases q1
   cases q2
   exact⟨u0,r0,.inr ⟨.inr S.fre,a,ly,cell⟩⟩
  |i+2,q1,_=>exact nomatch q1
 ·obtain⟨_,rfl⟩:=one z c q
  exact⟨_,cell⟩
 ·obtain⟨_,rfl⟩:=one z c q
  exact acH
theorem aCI{P:Program}{w:World}{K:Frag}{mg:Str->Option Value}{base:Heap}{k:Nat}{x y:Str}{name qual:Str}{params:Arguments}{body:Expr}{scope:Scope}{pm ctv:Value}{f c' a:Addr}{A:Around}{outer:List Env}{s:Shared}{H:Hp}{args:Args}{u u0:Value}{v v0:V}{o0:Obj}{Q:VK}{E:XK}{t:TE}
  (S:LamScope x y scope) (hr:Room (k+1) A) (e0:Env0 P w K mg base A outer s H) (hb:BindsTo s (kla_fn name qual params body scope [(y,a)] pm (.ref c') ctv) args [(x,u)]) (r:RelV v u)
  (hf:H f=some (abY f (kla_obj name qual params body scope [(y,a)] pm c' ctv))) (hc:H c'=some (al4 c' qual)) (ha:H a=some (abY a o0)) (ho:o0.data=.cell (some u0)) (r0:RelV v0 u0)
  (hbody:L2.E (acO P w K mg base [x,y] qual scope s.heap.objs.size f c' [(y,a)] A outer s (era H a)) body t)
  (h:t [some v,some v0] (era H a) fun v' H'=>H' a=none->Q v' (upd H' a (abY a o0))):
  codeAny (model P w) A (.call (.ref f) args) (CR CX0 outer P w H s Q E) s:=by
 have lim:s.heap.NoLimit:=e0.mod.nolimit.keeps fun b o e=>(e0.bs b o e).1
 refine kla_callFunE (by have:=hr.dp;omega) (ajV e0.hok hf) rfl S.co S.gen rfl (aD7 e0.hok hc) (hb _ _ _ _ ?_)
 refine wpAny_newFunctionEnv S.nocell (fun z hz=>by rw[bL.mp hz];exact S.par) (fun h₁ hns hsb=>⟨lim.fresh _ hsb,?_⟩) S.kind
 show codeAny _ _ (.expr body (envX qual scope s.heap.objs.size f (.ref c') [(y,a)])) _ _
 have hk₁:∀b o,s.heap.get? b=some o->h₁.get? b=some o:=fun b o e=>hsb.extBut b o (aY (aV e)) (a8 _ e)
 refine kla_codeExpr ?_
 have I:=auY (f:=f) (c':=c') (qual:=qual) (tk:=s.toks+([(x,u)]:List (Str×Value)).length) S hr.hd e0 ha ho r0 r hns hk₁ rfl
 refine dN (hbody.h [] _ _ _ _ I h) (fun v' s' hq=>?_) fun e s' hq=>hq.elim
 obtain⟨z,H',J,rz,q⟩:=hq
 have hao:=ajV e0.hok ha
 -- the cell is as it was
 have ca:s'.heap.get? a=some o0:=J.base.keep a o0 hao acH (fun hb=>by
  have:=e0.frf a hb
  rw[ha] at this
  cases this) (by simp[acO])
 refine⟨z,upd H' a (abY a o0),J.os,J.bare,⟨fun b o e n hb hx=>?_,fun b o e n hb hx=>?_,fun b o e n hx=>?_,fun b o e hx=>J.base.there b o e hx,fun b xs e=>?_,fun b o u e=>?_,fun b ps e=>?_⟩,J.hok.track (J.base.free a o0 hao acH (by simp[acO])) (ap1 ca),rz,q (J.base.free a o0 hao acH (by simp[acO]))⟩
 all_goals have na:b≠a:=fun z=>by (first | (rw[z,ha] at n;cases n) | (rw[z,ha] at e;cases e))
 ·exact J.base.keep b o e (by rw[show (acO P w K mg base [x,y] qual scope s.heap.objs.size f c' [(y,a)] A outer s (era H a)).H₀=era H a from rfl,abI na];exact n) hb hx
 ·exact J.base.slot b o e (by rw[show (acO P w K mg base [x,y] qual scope s.heap.objs.size f c' [(y,a)] A outer s (era H a)).H₀=era H a from rfl,abI na];exact n) hb hx
 ·rw[aaF na]
  exact J.base.free b o e (by rw[show (acO P w K mg base [x,y] qual scope s.heap.objs.size f c' [(y,a)] A outer s (era H a)).H₀=era H a from rfl,abI na];exact n) hx
 ·rw[aaF na]
  exact J.base.tups b xs (by rw[show (acO P w K mg base [x,y] qual scope s.heap.objs.size f c' [(y,a)] A outer s (era H a)).H₀=era H a from rfl,abI na];exact e)
 ·rw[aaF na]
  exact J.base.frzs b o u (by rw[show (acO P w K mg base [x,y] qual scope s.heap.objs.size f c' [(y,a)] A outer s (era H a)).H₀=era H a from rfl,abI na];exact e)
 ·obtain⟨more,z⟩:=J.base.tbls b ps (by rw[show (acO P w K mg base [x,y] qual scope s.heap.objs.size f c' [(y,a)] A outer s (era H a)).H₀=era H a from rfl,abI na];exact e)
  exact⟨more,by rw[aaF na];exact z⟩
end L2
namespace L2
open PySem PySem.Spec PyProof.Rows PySem.W
structure FnC(K:Frag)(mg:Str->Option Value)(x:Str)(st:Stmt)(ps:List Str)(c:Addr):Prop where
 ex:∃(f:Addr) (oc:Value) (od:Option Addr) (kV doc pm:Value) (an:Option Addr) (ct:Value) (osl:Array (Option Value)),
  K.lookup f=some ⟨oc,od,.func (fnOf x x (aa0 st) (aaS st) (aaC st) .none kV doc pm an (.ref c) ct),osl⟩/\codeIn K (.ref c) x=true/\keepIn K (.ref f)=true/\Binds K (fnOf x x (aa0 st) (aaS st) (aaC st) .none kV doc pm an (.ref c) ct) ps []/\mg x=some (.ref f)
section
variable{P:Program}{w:World}{K:Frag}{mg:Str->Option Value}{base:Heap}{x:Str}{st:Stmt}{ps N:List Str}{k:Nat}{sp:Sp}{c:Addr}
theorem FnC.dfs(F:FnC K mg x st ps c)(S':FnScope N ps (aaC st))(len:∀vs H Q E,sp vs H Q E->vs.length=ps.length)
  (hbody:∀(f:Addr) (A:Around) (outer:List Env) (s:Shared) (H:Hp) (vs:List V) (Q:VK) (E:XK),Room k (A.deeper (envOfC x (aaC st) s.heap.objs.size f (.ref c)))->sp vs H Q E->
   ∃t,Ss (ai4 CX0 P w K mg base N x (aaC st) f (.ref c) A outer s H E).nox (aaS st) t/\t {nx:=fun _ H'=>Q .non H',rt:=Q} (start N vs) H):Df P w K mg base x (k+1) ps sp:=by
 obtain⟨f,oc,od,kV,doc,pm,an,ct,osl,lk,hcd,kp,hb,hm⟩:=F.ex
 refine⟨⟨f,_,aw9 lk hcd S' len fun A outer s H vs Q E hr hsp=>?_,hb,hm,kp⟩⟩
 obtain⟨t,h,q⟩:=hbody f A outer s H vs Q E hr hsp
 exact⟨t,h.h.nox,q⟩
theorem ayV{h:Heap}{f:Addr}{oc:Value}{od an:Option Addr}{osl:Array (Option Value)}{kV doc pm ct:Value}(X:K.In h)(G:h.Ns mainGlobals mg)
  (a:nsIn K mainGlobals x=some (some (.ref f))) (l:K.lookup f=some ⟨oc,od,.func (fnOf x x (aa0 st) (aaS st) (aaC st) .none kV doc pm an (.ref c) ct),osl⟩)
  (cd:codeIn K (.ref c) x=true) (kp:keepIn K (.ref f)=true)
  (hb:∀(kV doc pm:Value) (an:Option Addr) (cdv ct:Value) (us:List Value),us.length=ps.length->bindArgs (fnOf x x (aa0 st) (aaS st) (aaC st) .none kV doc pm an cdv ct) ⟨us,[]⟩=pure (ps.zip us)):FnC K mg x st ps c:=
 ⟨⟨f,oc,od,kV,doc,pm,an,ct,osl,l,cd,kp,(anI (st:=st) l cd kp).binds (ps:=ps) hb,mg_of X G a⟩⟩
end
structure Host(K:Frag)(mg:Str->Option Value)(c Pt bm:Addr):Prop where
 code:∀h:Heap,K.In h->CodeHd h c Pt
 blt:mg "__builtins__"=some (.ref bm)/\bm≠builtinsNs
noncomputable def au0(H:Hp)(bm:Addr):Prop:=∃ob u,H bm=some (.frz ob u)/\ob.cls=.type "module"/\ob.dict=some builtinsNs/\ob.data=.plain
noncomputable def ab1(X:Cx)(y:Str):Addr:=(X.env.cells.lookup y).getD 0
noncomputable def ar1(qual:Str)(params:Arguments)(body:Expr)(scope:Scope)(y:Str)(a:Addr)(pm:Value)(c':Addr)(ctv:Value):Obj:=kla_obj "<lambda>" qual params body scope [(y,a)] pm c' ctv
noncomputable def aJL(Pt bm:Addr)(lpos:Pos)(qual:Str)(params:Arguments)(body:Expr)(scope:Scope)(y:Str)(a:Addr)(pm:Value):TE:=fun _ H Q=>au0 H bm/\∃ps:Array Value,H Pt=some (.tbl ps)/\TriplesOk ps.toList/\
 ((codeAmong lpos ps.toList=none/\∀f c' ctv,H f=none->H c'=none->c'≠f->Q (.ref f) (upd (upd (upd H Pt (.tbl (ps++ #[rawInt lpos.line,rawInt lpos.col,.ref c']))) c' (al4 c' qual)) f (abY f (ar1 qual params body scope y a pm c' ctv))))∨
 (∃c0,codeAmong lpos ps.toList=some (.ref c0)/\H c0=some (al4 c0 qual)/\∀f ctv,H f=none->Q (.ref f) (upd H f (abY f (ar1 qual params body scope y a pm c0 ctv)))))
section
variable{X:Cx}
theorem aFZ{params:Arguments}{body:Expr}{scope:Scope}{lpos:Pos}{y:Str}{c Pt bm:Addr}(hh:Host X.K X.mg c Pt bm)(hcode:X.env.code=.ref c:=by rfl)(hcl:closureFor scope X.env=pure [(y,ab1 X y)]:=by rfl)(hdef:defaultsOf params X.env=([],[]):=by rfl):
  E X (.Lambda params body scope lpos) (aJL Pt bm lpos (X.env.qual++"<lambda>") params body scope y (ab1 X y) ((X.mg "__name__").getD .none)):=by
 refine⟨fun pins s σ H Q I h=>?_⟩
 obtain⟨⟨ob,u,hbm,b4,b5,b6⟩,ps,hP,ht,h⟩:=h
 have hPh:s.heap.get? Pt=some (tabObj ps):=I.hok Pt _ hP
 have hg:s.heap.Ns mainGlobals X.mg:=I.mod.glob.keeps I.bk
 have bn:∀b o,X.base.get? b=some o->b≠Pt:=fun b o e z=>by
  have:=(I.bs b o e).2
  rw[z,hP] at this
  cases this
 have hgP:mainGlobals≠Pt:=by
  obtain⟨o,es,ep,e,_⟩:=I.mod.glob
  exact bn _ _ e
 have hb:s.heap.BuiltinsAt X.mg Pt:=by
  obtain⟨b1,b2⟩:=hh.blt
  refine⟨bm,ob,b1,b2,fun z=>?_,fun z=>?_,(I.hok bm _ hbm).1,b4,b5,b6⟩
  ·obtain⟨o,es,ep,e2,_⟩:=I.mod.glob
   have:=(I.bs _ _ e2).2
   rw[←z,hbm] at this
   cases this
  ·rw[z,hP] at hbm
   cases hbm
 have nl:X.env.locals≠Pt:=fun z=>by
  have:=I.free
  rw[z,hP] at this
  cases this
 refine kla_eval hdef ?_
 rcases h with ⟨hnf,h⟩ | ⟨c0,hf,hc0,h⟩
 ·refine kla_makeFunction (mg:=X.mg) hcl I.ok.glob hg hcode (hh.code _ I.kIn) hPh ht hnf hgP hb fun c' ctv h' tk hx hge hlt hrec htb=>?_
  have szle:s.heap.objs.size<=h'.objs.size:=Nat.le_of_lt (dD hge hlt)
  have ltc:∀b o,s.heap.get? b=some o->b≠c'/\b≠h'.objs.size:=fun b o e=>⟨aY (aZ (aV e) hge),aY (aZ (aV e) szle)⟩
  have hc'n:H c'=none:=I.hok.fresh hge
  have hfn:H h'.objs.size=none:=I.hok.fresh szle
  have cf:c'≠h'.objs.size:=aY hlt
  have trk:∀b o,H b=some o->b≠c'/\b≠h'.objs.size:=fun b o e=>⟨aaI e hc'n,aaI e hfn⟩
  let fo:=ar1 (X.env.qual++"<lambda>") params body scope y (ab1 X y) ((X.mg "__name__").getD .none) c' ctv
  let H1:=upd (upd (upd H Pt (.tbl (ps++ #[rawInt lpos.line,rawInt lpos.col,.ref c']))) c' (al4 c' (X.env.qual++"<lambda>"))) h'.objs.size (abY h'.objs.size fo)
  have H1o:∀b,b≠Pt->b≠c'->b≠h'.objs.size->H1 b=H b:=fun b n1 n2 n3=>by show upd (upd (upd H Pt _) c' _) h'.objs.size _ b=_;rw[aaF n3,aaF n2,aaF n1]
  have kp:∀b o,b≠Pt->s.heap.get? b=some o->(h'.push fo).get? b=some o:=fun b o n e=>a8 _ (hx b o n e)
  have PtN:Pt≠c'/\Pt≠h'.objs.size:=trk _ _ hP
  have H1P:H1 Pt=some (.tbl (ps++ #[rawInt lpos.line,rawInt lpos.col,.ref c'])):=by show upd (upd (upd H Pt _) c' _) h'.objs.size _ Pt=_;rw[aaF PtN.2,aaF PtN.1,aaA]
  have H1c:H1 c'=some (al4 c' (X.env.qual++"<lambda>")):=by show upd (upd (upd H Pt _) c' _) h'.objs.size _ c'=_;rw[aaF cf,aaA]
  have H1f:H1 h'.objs.size=some (abY h'.objs.size fo):=aaA
  have hok:HOk X.prog X.w H1 (h'.push fo):=fun b u e=>by
   by_cases n3:b=h'.objs.size
   ·subst n3
    rw[H1f] at e
    cases e
    exact ap1 (bK _ rfl)
   by_cases n2:b=c'
   ·subst n2
    rw[H1c] at e
    cases e
    obtain⟨c2,oc,vs,t,e2,hoc,hd,hv⟩:=hrec
    cases e2
    exact⟨⟨b,oc,vs,t,rfl,a8 _ hoc,hd,hv⟩,⟨oc,a8 _ hoc⟩,fun h1 h2 ⟨c2,oc,vs,t,e2,hoc,hd,hv⟩ k=>by cases e2;exact⟨b,oc,vs,t,rfl,k _ hoc,hd,hv⟩⟩
   by_cases n1:b=Pt
   ·subst n1
    rw[H1P] at e
    cases e
    exact a8 _ htb
   rw[H1o b n1 n2 n3] at e
   refine (I.hok b u e).stay (fun d v z q=>kp d v (fun zz=>?_) q) (fun d q=>?_) fun d xs q=>?_
   ·rcases z with z | z
    ·exact n1 (z.symm.trans zz)
    ·rw[zz,hP] at z
     cases z
   ·have:=trk _ _ q
    rw[H1o d (fun zz=>by rw[zz,hP] at q;cases q) this.1 this.2]
    exact q
   ·have:=trk _ _ q
    rw[H1o d (fun zz=>by rw[zz,hP] at q;cases q) this.1 this.2]
    exact q
  refine⟨.ref h'.objs.size,H1,?_,rfl,h h'.objs.size c' ctv hfn hc'n cf⟩
  refine I.step (g':=s.gens) (d':=s.drawn) (t':=tk) (ch:=[]) (fun _ z=>nomatch z) (fun b o _ _ _ e n=>kp b o (fun z=>by rw[z,hP] at n;cases n) e) (fun b o _ _ _ e n=>⟨o.slots,kp b o (fun z=>by rw[z,hP] at n;cases n) e⟩) (fun b o _ e n=>?_) (fun b o _ e=>?_) (fun b xs e=>?_) (fun b o u e=>?_) (fun b qs e=>?_) (fun m hm=>(hm.extBut hx nl).push _) hok I.bare
  ·rw[H1o b (fun z=>by rw[z,hP] at n;cases n) (ltc b o e).1 (ltc b o e).2]
   exact n
  ·by_cases z:b=Pt
   ·rw[z];exact⟨_,a8 _ htb⟩
   ·exact⟨o,kp b o z e⟩
  ·rw[H1o b (fun z=>by rw[z,hP] at e;cases e) (trk _ _ e).1 (trk _ _ e).2];exact e
  ·rw[H1o b (fun z=>by rw[z,hP] at e;cases e) (trk _ _ e).1 (trk _ _ e).2];exact e
  ·by_cases z:b=Pt
   ·rw[z,hP] at e
    cases e
    exact⟨_,z▸H1P⟩
   ·exact⟨#[],by rw[H1o b z (trk _ _ e).1 (trk _ _ e).2,e];simp⟩
 ·refine kla_makeFunctionHit (mg:=X.mg) hcl I.ok.glob hg hcode (hh.code _ I.kIn) hPh ht hf hb fun ctv h' tk hk hsz=>?_
  have hfn:H h'.objs.size=none:=I.hok.fresh hsz
  let fo:=ar1 (X.env.qual++"<lambda>") params body scope y (ab1 X y) ((X.mg "__name__").getD .none) c0 ctv
  have kp:∀b o,s.heap.get? b=some o->(h'.push fo).get? b=some o:=fun b o e=>a8 _ (hk b o e)
  have hok:HOk X.prog X.w (upd H h'.objs.size (abY h'.objs.size fo)) (h'.push fo):=I.hok.laid kp hsz (ap1 (bK _ rfl))
  refine⟨.ref h'.objs.size,upd H h'.objs.size (abY h'.objs.size fo),?_,rfl,h h'.objs.size ctv hfn⟩
  exact I.step (g':=s.gens) (d':=s.drawn) (t':=tk) (ch:=[]) (fun _ z=>nomatch z) (fun b o _ _ _ e n=>kp b o e) (fun b o _ _ _ e n=>⟨o.slots,kp b o e⟩) (fun b o _ e n=>by rw[aaF (aY (aZ (aV e) hsz))];exact n) (fun b o _ e=>⟨o,kp b o e⟩) (fun b xs e=>by rw[aaF (aaI e hfn)];exact e) (fun b o u e=>by rw[aaF (aaI e hfn)];exact e) (fun b qs e=>⟨#[],by rw[aaF (aaI e hfn),e];simp⟩) (fun m hm=>(hm.keeps hk).push _) hok I.bare
end
end L2
namespace L2
open PySem PySem.Spec PyProof.Rows PySem.W
section
variable{X:Cx}
theorem awN{pins:List (Addr×Obj)}{σ:St}{H:Hp}{s:Shared}{Q:VK}{us:List Value}{vs:List V}{k:Nat}{f:Addr}{fd:FuncData}{ps:List Str}{sp:Sp}{i:Nat}{y:Str}{v0:V}(F:FnOk X.prog X.w X.K X.mg X.base CX0 k f fd ps sp)(hr:Room k X.A)(hb:Binds X.K fd ps [])
  (I:Inv X pins σ H s) (r:Vals vs us) (hi:X.N[i]? =some y) (hv:σ[i]? =some (some v0)) (hky:X.env.kindOf y=some .cell) (hcy:X.env.cells.lookup y=some (ab1 X y)) (hfn:X.fn y=true)
  (h:H (ab1 X y)=none->∀(o0:Obj) (u0:Value),o0.data=.cell (some u0)->RelV v0 u0->sp vs (upd H (ab1 X y) (abY (ab1 X y) o0)) (fun v H'=>H' (ab1 X y)=some (abY (ab1 X y) o0)/\Q v (era H' (ab1 X y))) E0):
  wpAny (model X.prog X.w) X.A (call (.ref f) us) (EP X pins σ Q) X.xe s:=by
 obtain⟨m,hn,hl⟩:=I.loc
 obtain⟨u0,r0,l⟩:=hl i y v0 hi hv (.inr (.inl hky))
 rcases l with ⟨z,_⟩ | ⟨_,c,ec,o0,ho,hd⟩
 ·rw[hky] at z;cases z
 rw[hcy] at ec
 cases ec
 have ha:H (ab1 X y)=none:=I.freeC y _ hcy
 have hge:X.s₀.heap.objs.size<=ab1 X y:=I.ok.cab y _ hfn hcy
 have q:=h ha o0 u0 hd r0
 generalize ea:ab1 X y=a at *
 have hok:HOk X.prog X.w (upd H a (abY a o0)) s.heap:=I.hok.track ha (ap1 ho)
 have nb:∀b o,X.base.get? b=some o->b≠a:=fun b o e=>aY (aZ (aZ (aV e) I.ok.bsz) hge)
 have nf:∀b∈frs X.stack,b≠a:=fun b hb z=>by
  subst z
  rcases bB.mp (I.stkSub b hb) with e | hb
  ·exact I.cne y _ hcy (ea▸e)
  ·obtain⟨_,o,ho',_⟩:=I.ok.funs.mem hb
   exact absurd (aZ (aV ho') hge) (cE _)
 have e0:Env0 X.prog X.w X.K X.mg X.base X.A X.stack s (upd H a (abY a o0)):=⟨I.ok.frames,I.ok.mod,fun b o e=>⟨(I.bs b o e).1,by rw[aaF (nb b o e)];exact (I.bs b o e).2⟩,bI I.ok.bsz I.sz,I.stack,fun b hb=>by rw[aaF (nf b hb)];exact I.stkFree b hb,hok,I.bare⟩
 have hlen:(us++[]).length=ps.length:=by rw[cI,←r.length];exact F.len _ _ _ _ q
 have bt:=hb s us I.kIn hlen
 rw[cI] at bt
 refine wpAny_call (codeAny_mono (F.run X.A X.stack s _ ⟨us,[]⟩ us vs _ E0 hr e0 bt r q) fun r s' hq=>?_)
 cases r with
 |error e=>exact False.elim hq
 |ok fl=>
  cases fl with
  |next=>exact False.elim hq
  |brk=>exact False.elim hq
  |cont=>exact False.elim hq
  |ret u=>
   obtain⟨v,H',os,bare,un,hok',rz,hca,q⟩:=hq
   have ca:=ajV hok' hca
   refine I.after ⟨v,era H' a,os,bare,⟨fun b o e n hb hx=>?_,fun b o e n hb hx=>?_,fun b o e n hx=>?_,fun b o e hx=>un.there b o e hx,fun b xs e=>?_,fun b o u e=>?_,fun b qs e=>?_⟩,hok'.era_ (fun z e=>by rw[hca] at e;cases e) (fun xs e=>by rw[hca] at e;cases e),rz,q⟩
   ·by_cases z:b=a
    ·subst z
     rw[ho] at e
     cases e
     exact ca
    ·exact un.keep b o e (by rw[aaF z];exact n) hb hx
   ·exact un.slot b o e (by rw[aaF (nf b hb)];exact n) hb hx
   ·by_cases z:b=a
    ·rw[z];exact acH
    ·rw[abI z];exact un.free b o e (by rw[aaF z];exact n) hx
   ·have z:b≠a:=aaI e ha
    rw[abI z]
    exact un.tups b xs (by rw[aaF z];exact e)
   ·have z:b≠a:=aaI e ha
    rw[abI z]
    exact un.frzs b o u (by rw[aaF z];exact e)
   ·have z:b≠a:=aaI e ha
    obtain⟨more,e'⟩:=un.tbls b qs (by rw[aaF z];exact e)
    exact⟨more,by rw[abI z];exact e'⟩
noncomputable def asC(i:Nat)(a:Addr)(sp:Sp)(t:TA):TE:=fun σ H Q=>t σ H fun vs H1=>∃v0,σ[i]? =some (some v0)/\(H1 a=none->∀(o0:Obj) (u0:Value),o0.data=.cell (some u0)->RelV v0 u0->sp vs (upd H1 a (abY a o0)) (fun v H'=>H' a=some (abY a o0)/\Q v (era H' a)) E0)
theorem axU{x:Str}{k k':Nat}{ps:List Str}{sp:Sp}{e:Expr}{es:List Expr}{t:TA}{p pos:Pos}(y:Str)(i:Nat)(D:Df X.prog X.w X.K X.mg X.base x k ps sp)(hr:Room k' X.A)(ha:As X (e::es) t)(hk:k<=k':=by decide)(hi:X.N[i]? =some y:=by rfl)(hky:X.env.kindOf y=some .cell:=by rfl)(hcy:X.env.cells.lookup y=some (ab1 X y):=by rfl)(hfn:X.fn y=true:=by rfl)(hg:Gl X x:=by rfl)
  (hdb:(x==("__debug__":Str))=false:=by decide) (he:starEach (e::es) X.env=(false,eval e X.env)::starEach es X.env:=by rfl) (hpl:(backTo pos (starEach es X.env)).any (·.1)=false:=by rfl):
  E X (.Call (.Name x p) (e::es) [] pos) (asC i (ab1 X y) sp t):=by
 obtain⟨f,fd,F,hb,hm,kp⟩:=D.ex
 refine⟨fun pins s σ H Q I h=>?_⟩
 refine dX (aeZ I hg hm ?_ hdb)
 refine callWith_K (h₀:=X.base) I.ok.mod.kin kp (thn (ha.h pos pins s σ H _ I h) fun us s1 ⟨vs,H1,I1,r,v0,hv,q⟩=>⟨I1.kIn,?_⟩) he hpl
 exact awN F (hr.mono hk) hb I1 r hi hv hky hcy hfn q
noncomputable def Calls(P:Program)(w:World)(K:Frag)(mg:Str->Option Value)(base:Heap)(k:Nat)(f:Addr)(vs:List V)(H:Hp)(Q:VK):Prop:=
 ∀(A:Around) (outer:List Env) (s:Shared) (us:List Value),Room k A->Env0 P w K mg base A outer s H->Vals vs us->codeAny (model P w) A (.call (.ref f) ⟨us,[]⟩) (CR CX0 outer P w H s Q E0) s
noncomputable def FnHO(H:Hp)(f:Addr):Prop:=∃(oc:Value) (od:Option Addr) (fd:FuncData) (sl:Array (Option Value)),H f=some (abY f ⟨oc,od,.func fd,sl⟩)
noncomputable def aC3(P:Program)(w:World)(K:Frag)(mg:Str->Option Value)(base:Heap)(k:Nat)(tv:TE)(t:TA):TE:=fun σ H Q=>tv σ H fun v H1=>∃f,v=.ref f/\FnHO H1 f/\t σ H1 fun vs H2=>FnHO H2 f/\Calls P w K mg base k f vs H2 Q
theorem FnHO.at_{P:Program}{w:World}{H:Hp}{h:Heap}{f:Addr}(x:HOk P w H h)(e:FnHO H f):FnAt f h:=by
 obtain⟨oc,od,fd,sl,e⟩:=e
 exact⟨oc,od,fd,sl,ajV x e⟩
theorem aDU{y:Str}{e:Expr}{es:List Expr}{t:TA}{tv:TE}{k k':Nat}{p pos:Pos}(hr:Room k' X.A)(hv:E X (.Name y p) tv)(ha:As X (e::es) t)(hk:k<=k':=by decide)
  (he:starEach (e::es) X.env=(false,eval e X.env)::starEach es X.env:=by rfl) (hpl:(backTo pos (starEach es X.env)).any (·.1)=false:=by rfl):E X (.Call (.Name y p) (e::es) [] pos) (aC3 X.prog X.w X.K X.mg X.base k tv t):=by
 refine⟨fun pins s σ H Q I h=>?_⟩
 refine dX (thn (hv.h pins s σ H _ I h) fun v s1 ⟨x,H1,I1,r1,f,ex,hf1,q⟩=>?_)
 subst ex
 cases r1
 refine callWith_F (hf1.at_ I1.hok) (thn (ha.h pos pins s1 σ H1 _ I1 q) fun us s2 ⟨vs,H2,I2,r,hf2,hc⟩=>⟨hf2.at_ I2.hok,?_⟩) he hpl
 refine wpAny_call (codeAny_mono (hc X.A X.stack s2 us (hr.mono hk) I2.env0 r) fun r s' hq=>?_)
 cases r with
 |error e=>exact False.elim hq
 |ok fl=>
  cases fl with
  |ret u=>exact I2.after hq
  |next=>exact False.elim hq
  |brk=>exact False.elim hq
  |cont=>exact False.elim hq
end
end L2
namespace L2
open PySem PySem.Spec PyProof.Rows PySem.W
noncomputable def atN(tabs:List Addr)(bm:Addr)(H:Hp):Prop:=(∀b∈tabs,H b=some (.tbl #[]))/\(∀b,b∉tabs->H b=none∨∃o u,H b=some (.frz o u))/\au0 H bm
theorem awC{P:Program}{w:World}{K:Frag}{mg mb:Str->Option Value}{k:Nat}{fa a:Addr}{fd:FuncData}{x:Str}{sp:Sp}{s₁:Shared}{vs:List Value}{ns:List Int}{tabs:List Addr}{bm:Addr}{ob:Obj}
  (KX:K.In s₁.heap) (hns:s₁.heap.Ns mainGlobals mg) (hb:s₁.heap.Ns builtinsNs mb) (hbb:∀x:Str,x≠"__name__"->mb x=bootBuiltins x) (hlim:s₁.heap.NoLimit) (hg:s₁.gens= #[])
  (hT:∀b∈tabs,isCodeTable s₁.heap b/\s₁.heap.get? b=some (tabObj #[])) (hTK:∀b∈tabs,K.lookup b=none)
  (hB:s₁.heap.get? bm=some ob) (hBK:K.lookup bm=none) (b4:ob.cls=.type "module") (b5:ob.dict=some builtinsNs) (b6:ob.data=.plain)
  (ha:s₁.heap.get? a=some {cls:=.type "list",data:=.seq vs.toArray}) (hi:IntsAre vs ns) (hl:ns.length<=sizeLine) (hr:Room k callerA)
  (F:∀base:Heap,K.In base->base.Ns mainGlobals mg->FnOk P w K mg base CX0 k fa fd [x] sp) (hbind:∀(s:Shared) (u:Value),BindsTo s fd ⟨[u],[]⟩ [(x,u)])
  (hsp:∀H:Hp,atN tabs bm H->SqL K H a (ns.map V.int)->sp [.ref a] H (fun v _=>v=.bl true) fun _ _ _=>False):
  codeAny (model P w) callerA (.call (.ref fa) ⟨[.ref a],[]⟩) (fun r s'=>r=.ok (.ret (.bool true))/\OldK s₁.heap s'.heap/\s'.os=s₁.os/\AllBare s'.gens) s₁:=by
 have rv:=am7 hi
 have lenV:=hi.length
 have aT:a∉tabs:=fun h=>by
  have:=(hT a h).2
  rw[ha] at this
  cases this
 have bT:bm∉tabs:=fun h=>by
  have:=(hT bm h).2
  rw[hB] at this
  cases this
  cases b6
 have ba:bm≠a:=fun h=>by
  rw[h,ha] at hB
  cases hB
  cases b6
 have core:∀H:Hp,atN tabs bm H->SqL K H a (ns.map V.int)->HOk P w H s₁.heap->(∀b,b∉tabs->H b≠none->b=a∨b=bm)->(H a≠none->K.lookup a=none)->
   codeAny (model P w) callerA (.call (.ref fa) ⟨[.ref a],[]⟩) (fun r s'=>r=.ok (.ret (.bool true))/\OldK s₁.heap s'.heap/\s'.os=s₁.os/\AllBare s'.gens) s₁:=by
  intro H hO hS hok hA hK
  have base_of:∀{b:Addr} {o:Obj},s₁.heap.get? b=some o->H b=none->(anA s₁.heap H).get? b=some o:=fun e n=>axX e n
  have cases_:∀b,H b=none∨b∈tabs∨b=a∨b=bm:=fun b=>by
   by_cases h:b∈tabs
   ·exact .inr (.inl h)
   ·cases q:H b with
    |none=>exact .inl rfl
    |some u=>exact .inr (.inr (hA b h (by rw[q];simp)))
  have noA:∀{b:Addr} {o:Obj} {es:Array DictEntry} {ep:Nat},s₁.heap.get? b=some o->o.data=.dict es ep->H b=none:=fun {b o es ep} e d=>by
   rcases cases_ b with h | h | h | h
   ·exact h
   ·rw[(hT b h).2] at e;cases e;cases d
   ·rw[h,ha] at e;cases e
    have d':Data.seq vs.toArray _=Data.dict es ep:=d
    cases d'
   ·rw[h,hB] at e;cases e
    rw[b6] at d;cases d
  have nsK:∀{b:Addr} {m:Str->Option Value},s₁.heap.Ns b m->(anA s₁.heap H).Ns b m:=fun {b m} ⟨o,es,ep,e,d,r⟩=>⟨o,es,ep,base_of e (noA e d),d,r⟩
  have hKb:K.In (anA s₁.heap H):=fun b o e=>base_of (KX b o e) (by
   rcases cases_ b with h | h | h | h
   ·exact h
   ·rw[hTK b h] at e;cases e
   ·cases q:H b with
    |none=>rfl
    |some u=>
     subst h
     rw[hK (by rw[q];simp)] at e;cases e
   ·rw[h,hBK] at e;cases e)
  have hM:Mod K mg (anA s₁.heap H):=⟨hKb,nsK hns,⟨mb,nsK hb,hbb⟩,let ⟨mc,h1,h2⟩:=hlim;⟨mc,nsK h1,h2⟩⟩
  have e0:Env0 P w K mg (anA s₁.heap H) callerA [] s₁ H:=⟨rfl,hM,fun b o e=>ayZ e,Nat.le_of_eq (avT _ _),trivial,fun b hb=>absurd (show b∈([]:List Addr) from hb) (by simp),hok,.of_eq hg⟩
  refine codeAny_mono ((F _ hKb (nsK hns)).run callerA [] s₁ H ⟨[.ref a],[]⟩ [.ref a] [.ref a] _ _ hr e0 (hbind s₁ (.ref a)) (.cons rfl .nil) (hsp H hO hS)) fun r s' h=>?_
  cases r with
  |error e=>exact False.elim h
  |ok fl=>
   cases fl with
   |next=>exact False.elim h
   |brk=>exact False.elim h
   |cont=>exact False.elim h
   |ret u=>
    obtain⟨v,H',os,bare,un,hok',r',q⟩:=h
    have q':v=.bl true:=q
    subst q'
    obtain rfl:u=Value.bool true:=r'
    have kept:∀b o,b∉tabs->s₁.heap.get? b=some o->s'.heap.get? b=some o:=fun b o nb e=>by
     cases q:H b with
     |none=>exact un.keep b o e q (by intro z;exact absurd (show b∈([]:List Addr) from z) (by simp)) (by simp)
     |some u=>
      rcases hO.2.1 b nb with z | ⟨ob',xs,z⟩
      ·rw[q] at z;cases z
      ·have z2:=un.frzs b ob' _ z
       obtain⟨e1,_⟩:=hok b _ z
       obtain⟨e2,_⟩:=hok' b _ z2
       rw[e] at e1;cases e1
       exact e2
    have grown:∀b,b∈tabs->∃ps,s'.heap.get? b=some (tabObj ps):=fun b hb=>by
     obtain⟨more,z⟩:=un.tbls b #[] (hO.1 b hb)
     exact⟨_,hok' b _ z⟩
    refine⟨rfl,⟨fun b o e=>?_,fun b o e=>?_⟩,os,bare⟩
    ·by_cases hb:b∈tabs
     ·obtain⟨ps,hp⟩:=grown b hb
      rw[(hT b hb).2] at e
      cases e
      exact .inr (.inl ⟨(hT b hb).1,rfl,#[],ps,rfl,by rw[Array.empty_append];exact hp⟩)
     ·exact .inl (kept b o hb e)
    ·by_cases hb:b∈tabs
     ·obtain⟨ps,hp⟩:=grown b hb
      exact⟨_,hp⟩
     ·exact⟨o,kept b o hb e⟩
 have tOk:∀(H:Hp) (b:Addr),b∈tabs->ObjOk P w H s₁.heap b (.tbl #[]):=fun H b hb=>(hT b hb).2
 let G:Hp->Hp:=fun H0 b=>if b∈tabs then some (.tbl #[]) else if b=bm then some (.frz ob (abY bm ob)) else H0 b
 have Gt:∀{H0:Hp} {b:Addr},b∈tabs->G H0 b=some (.tbl #[]):=fun hb=>if_pos hb
 have Gb:∀{H0:Hp},G H0 bm=some (.frz ob (abY bm ob)):=(if_neg bT).trans (if_pos rfl)
 have Go:∀{H0:Hp} {b:Addr},b∉tabs->b≠bm->G H0 b=H0 b:=fun h1 h2=>(if_neg h1).trans (if_neg h2)
 have only:∀H0:Hp,(∀b,H0 b=none∨∃o u,H0 b=some (.frz o u))->atN tabs bm (G H0):=fun H0 h=>⟨fun b hb=>Gt hb,fun b hb=>by
  by_cases e:b=bm
  ·subst e;exact .inr ⟨_,_,Gb⟩
  ·rw[Go hb e];exact h b,ob,_,Gb,b4,b5,b6⟩
 have oks:∀H0:Hp,(∀b u,b∉tabs->b≠bm->H0 b=some u->ObjOk P w (G H0) s₁.heap b u)->HOk P w (G H0) s₁.heap:=fun H0 h b u z=>by
  by_cases hb:b∈tabs
  ·rw[Gt hb] at z
   cases z
   exact tOk _ b hb
  ·by_cases e:b=bm
   ·subst e
    rw[Gb] at z
    cases z
    exact⟨hB,ap1 hB⟩
   ·rw[Go hb e] at z
    exact h b u hb e z
 cases hk:K.lookup a with
 |some o=>
  have e:=KX a o hk
  rw[ha] at e
  cases e
  refine core (G fun _=>none) (only _ fun b=>.inl rfl) (.inr ⟨_,vs.toArray,_,hk,rfl,rfl,rfl,by rw[bG,lenV];exact hl,by simpa using rv⟩) (oks _ fun b u _ _ z=>by cases z) (fun b hb z=>?_) fun z=>absurd (Go (H0:=fun _=>none) aT ba.symm) z
  by_cases e:b=bm
  ·exact .inr e
  ·exact absurd (Go (H0:=fun _=>none) hb e) z
 |none=>
  refine core (G fun b=>if b=a then some (.frz {cls:=.type "list",data:=.seq vs.toArray} (.lst (ns.map V.int))) else none) (only _ fun b=>?_) (.inl (.inr ⟨{cls:=.type "list",data:=.seq vs.toArray},(Go (H0:=fun b=>if b=a then some (.frz {cls:=.type "list",data:=.seq vs.toArray} (.lst (ns.map V.int))) else none) aT ba.symm).trans (if_pos rfl)⟩)) (oks _ fun b u hb nb z=>?_) (fun b hb z=>?_) fun _=>hk
  ·by_cases e:b=a
   ·exact .inr ⟨_,_,if_pos e⟩
   ·exact .inl (if_neg e)
  ·by_cases e:b=a
   ·have z:=(if_pos e).symm.trans z
    cases z
    subst e
    exact⟨ha,by rw[aU];exact hl,vs,_,rv,ha⟩
   ·have z:=(if_neg e).symm.trans z
    cases z
  ·by_cases e:b=bm
   ·exact .inr e
   ·by_cases e2:b=a
    ·exact .inl e2
    ·exact absurd ((Go (H0:=fun b=>if b=a then some (.frz {cls:=.type "list",data:=.seq vs.toArray} (.lst (ns.map V.int))) else none) hb e).trans (if_neg e2)) z
theorem walk_ofT{l:OpenLaw}{n k:Nat}{q:Program}{loose:List Str}{XP:(Str->Option Value)->Heap->Prop}{YP:World->Heap->Prop}{d:DefRec}{K:Params->Frag}{sp:World->Sp}{x:Str}{tabs:World->List Addr}{bm:Addr}
  (hn:l.most=some n) (hn2:n<=sizeLine) (hdf:d.params.defaults=[]) (hr:Room k callerA)
  (hY:∀(w:World) (h:Heap),YP w h->(K w.params).In h)
  (hTb:∀(w:World) (h:Heap) (mean:ExcName->Option Value) (mg mb:Str->Option Value),(K w.params).In h->Top q (looseW q loose) mean mg mb h->∀b∈tabs w,(isCodeTable h b/\h.get? b=some (tabObj #[]))/\(K w.params).lookup b=none)
  (hBm:∀(w:World) (h:Heap) (mg:Str->Option Value),(K w.params).In h->h.Ns mainGlobals mg->mg "__builtins__"=some (.ref bm)/\(K w.params).lookup bm=none)
  (F:∀(w:World) (mg:Str->Option Value) (fa:Addr) (h:Heap),(K w.params).In h->h.Ns mainGlobals mg->mg d.name=some (.ref fa)->
   ∃fd:FuncData,(∀(s:Shared) (u:Value),BindsTo s fd ⟨[u],[]⟩ [(x,u)])/\
    ∀base:Heap,(K w.params).In base->base.Ns mainGlobals mg->FnOk l.prog w (K w.params) mg base CX0 k fa fd [x] (sp w))
  (hsp:∀(w:World) (H:Hp) (a:Addr) (ns:List Int),ns.length<=n->atN (tabs w) bm H->SqL (K w.params) H a (ns.map V.int)->sp w [.ref a] H (fun v _=>v=.bl true) fun _ _ _=>False):
  WalkO q loose XP YP l.row.toRowW d [] (fun f vs=>PySem.call f vs):=by
 refine Att.attach_call hn hdf fun w s₀ s₁ mg mb fa o pm cd doc a vs ns G Y ho hd hcd hmg hobj hints hlen hg=>?_
 have KX:=hY w _ Y
 obtain⟨fd,hb,hF⟩:=F w mg fa _ KX G.T.g hmg
 have hT:=hTb w _ _ _ _ KX G.T
 obtain⟨bm',ob,a1,a2,a3,a4,a5,a6⟩:=G.T.bmain
 obtain⟨c1,c2⟩:=hBm w _ _ KX G.T.g
 rw[c1] at a1
 cases a1
 exact awC KX G.T.g G.T.b G.T.builtins G.T.nolimit hg (fun b hb=>(hT b hb).1) (fun b hb=>(hT b hb).2) a3 c2 a4 a5 a6 hobj hints (bI hlen hn2) hr hF hb fun H hO hS=>hsp w H a ns hlen hO hS
theorem at3{K:Frag}{mg:Str->Option Value}{h:Heap}{c Pt bm:Addr}{od:Option Addr}{sl:Array (Option Value)}{v0 v1 v2 v3 v4 v5 v6 v8 v12 v13 v14 v15 v16 v17:Value}{fl tx:Int}{tg tt tf:Tok}{inF:Bool}{file:Str}(X:K.In h)(G:h.Ns mainGlobals mg)
  (l:K.lookup c=some ⟨.type "code",od,.fields #[v0,v1,v2,v3,v4,v5,v6,.int fl tg,v8,.bool inF,.int tx tt,.ref Pt,v12,v13,v14,v15,v16,v17,.str file tf],sl⟩) (ne:c≠Pt)
  (b1:nsIn K mainGlobals "__builtins__"=some (some (.ref bm))) (b2:bm≠builtinsNs):Host K mg c Pt bm:=
 ⟨fun h' X'=>⟨_,_,file,tf,fl,tg,inF,tx,tt,X' _ _ l,rfl,rfl,rfl,rfl,rfl,rfl,rfl,rfl,ne⟩,mg_of X G b1,b2⟩
section
variable{X:Cx}{k:Nat}{o i value:Expr}{td ty tv:TE}{pos pos':Pos}
theorem tDnt(hr:Room k X.A)(hi:E X i ty)(ho:E X o td)(hm:behindInMarks .NotIn o=false:=by rfl):T X (.Compare i [.NotIn] [o] pos) (L2.tB (auL ty td)):=⟨aD3 (au2 (af3 hr) hi.h ho.h) hm⟩
theorem sDpt(hr:Room k X.A)(ho:E X o td)(hi:E X i ty)(hv:E X value tv)(hs:swapsWith value (some (.Subscript o i pos')) pos.line X.env=pure false:=by rfl):S X (.Assign [.Subscript o i pos'] value pos) (aA8 td ty tv):=⟨azM (af3 hr) ho.h hi.h hv.h hs⟩
end
end L2
namespace L2
open PySem PySem.Spec PyProof.Rows PySem.SeqAt
section
variable{X:Cx}
theorem ahS{h:Heap}:∀{ws:List (List Nat)} {us:List Value},Vals (ws.map fun q=>V.str (Tx q)) us->ReadsAll h us (ws.map fun q=>PyData.str (Tx q)) []
 |[],_,.nil=>.nil
 |w::ws,_,.cons r t=>by
  obtain⟨k,rfl⟩:=r
  have:=ReadsAll.cons (Reads.str (h:=h) (Tx w) k) (ahS (h:=h) t)
  simpa using this
noncomputable def Asc(l:List Nat):Prop:=∀c∈l,c<128
theorem aB5{l:List Nat}(h:Asc l):PyData.strOk (Tx l)=true:=by
 unfold PyData.strOk
 show l.toArray.all (fun a=>decide (a<1114112))=true
 rw[List.all_toArray,bW]
 intro c hc
 exact dR (Nat.lt_trans (h c hc) (by decide))
theorem atM:∀ws:List (List Nat),(∀w∈ws,Asc w)->PyData.canLayAll0 (ws.map fun q=>PyData.str (Tx q))=true
 |[],_=>by simp[PyData.canLayAll0]
 |w::r,h=>by
  simp only[bD,PyData.canLayAll0,PyData.canLay0,atM r fun v hv=>h v (bY _ hv),aB5 (h w bX)]
  rfl
theorem axN:∀ws:List (List Nat),PyData.depthAll (ws.map fun q=>PyData.str (Tx q))<=1
 |[]=>by simp[PyData.depthAll]
 |_::r=>by
  have:=axN r
  simp only[bD,PyData.depthAll,PyData.depth]
  omega
theorem auN{ws:List (List Nat)}(h:∀w∈ws,Asc w):shaped (.list (ws.map fun q=>PyData.str (Tx q)))=true:=by
 have h1:=axN ws
 have h2:PyData.depth (.list (ws.map fun q=>PyData.str (Tx q)))<=64:=by simp only[PyData.depth];omega
 show (PyData.canLay0 (.list (ws.map fun q=>PyData.str (Tx q)))&&decide (PyData.depth (.list (ws.map fun q=>PyData.str (Tx q)))<=64))=true
 rw[bH]
 exact⟨by simp only[PyData.canLay0];exact atM ws h,dR h2⟩
theorem aw3:∀ws vs:List (List Nat),noMixAll (ws.map fun q=>PyData.str (Tx q)) (vs.map fun q=>PyData.str (Tx q))=true
 |[],[]=>by simp[noMixAll]
 |[],_::_=>by simp[noMixAll]
 |_::_,[]=>by simp[noMixAll]
 |_::r,_::q=>by simp[noMixAll,noMix,aw3 r q]
theorem aBO:∀ws vs:List (List Nat),PySem.Spec.sameAll (ws.map fun q=>PyData.str (Tx q)) (vs.map fun q=>PyData.str (Tx q))=decide (ws=vs)
 |[],[]=>by simp[PySem.Spec.sameAll]
 |[],_::_=>by simp[PySem.Spec.sameAll]
 |_::_,[]=>by simp[PySem.Spec.sameAll]
 |a::r,b::q=>by
  simp only[bD,PySem.Spec.sameAll,PySem.Spec.same,aBO r q]
  by_cases h1:a=b
  ·subst h1;simp
  ·have:¬Tx a=Tx b:=fun e=>h1 (Tx_inj.mp e)
   simp[h1,this]
theorem aF2(hu:X.A.units+64<cLine):Op2 X (compareOp .Eq) (fun x y H Q=>∃(a b:Addr) (ws vs:List (List Nat)),x=.ref a/\y=.ref b/\SqL X.K H a (ws.map fun q=>V.str (Tx q))/\SqL X.K H b (vs.map fun q=>V.str (Tx q))/\(∀w∈ws,Asc w)/\(∀w∈vs,Asc w)/\Q (.bl (decide (ws=vs))) H):=by
 refine⟨fun pins s σ H x y v u Q I rx ry h=>?_⟩
 obtain⟨a,b,ws,vs,rfl,rfl,ha,hb,a1,a2,q⟩:=h
 cases rx
 cases ry
 obtain⟨its,rv,pl,_⟩:=I.list ha
 obtain⟨its',rv',pl',_⟩:=I.list hb
 obtain⟨o,ho,hc,n,hd⟩:=pl.isList
 obtain⟨o',ho',hc',n',hd'⟩:=pl'.isList
 exact eq_dataH_same (da:=.list (ws.map fun q=>PyData.str (Tx q))) (db:=.list (vs.map fun q=>PyData.str (Tx q))) (Reads.list ho hc hd (by simpa using ahS rv)) (Reads.list ho' hc' hd' (by simpa using ahS rv')) (auN a1) (auN a2) hu (by simp only[noMix];exact aw3 ws vs)
  (by show EP X pins σ Q (.bool (same (.list _) (.list _))) s;simp only[same];rw[aBO];exact⟨.bl _,H,I,rfl,q⟩)
end
section
variable{X:Cx}
theorem oEqE(hu:X.A.units+64<cLine):Op2 X (compareOp .Eq) (fun x y H Q=>∃(a b:Addr) (vs:List V),x=.ref a/\y=.ref b/\SqL X.K H a vs/\SqL X.K H b []/\Q (.bl (decide (vs=[]))) H):=by
 refine⟨fun pins s σ H x y v u Q I rx ry h=>?_⟩
 obtain⟨a,b,vs,rfl,rfl,ha,hb,q⟩:=h
 cases rx
 cases ry
 obtain⟨its,rv,pl,_⟩:=I.list ha
 obtain⟨its',rv',pl',_⟩:=I.list hb
 cases rv'
 have e:=rv.length
 cases vs with
 |nil=>
  cases rv
  refine SeqAt.RcAt.lists (e:=fun _=>true) pl.isList pl'.isList rfl (by omega) (fun i h1 h2=>SeqAt.EqAt.same _) _ _ _ _ ?_
  exact⟨.bl true,H,I,by show Value.bool _=Value.bool true;congr 1,q⟩
 |cons v0 vs=>
  refine SeqAt.RcAt.lists_lengths pl.isList pl'.isList (by rw[bG,←e];rfl) (by omega) _ _ _ _ ?_
  exact⟨.bl false,H,I,rfl,q⟩
end
end L2
namespace K58
open PySem PySem.Spec PyProof.Rows L2 KM
noncomputable def top(i:Nat):Stmt:=PySem.Challenge.pw_fivefields_k58_whole_none_between.main.body.getD i (.Pass ⟨0,0,0,0⟩)
noncomputable abbrev amB:Stmt:=top 12
noncomputable abbrev acA:Stmt:=top 13
noncomputable abbrev afI:Stmt:=top 14
noncomputable abbrev amF:Stmt:=top 15
noncomputable abbrev alB:Stmt:=top 7
noncomputable abbrev amQ:Stmt:=top 16
noncomputable abbrev arG:Stmt:=top 17
noncomputable abbrev amX:Stmt:=top 18
noncomputable abbrev amS:Stmt:=top 19
noncomputable abbrev amL:Stmt:=top 20
noncomputable abbrev aiF:Stmt:=top 33
noncomputable abbrev am3:Stmt:=top 34
noncomputable abbrev ap8:Stmt:=top 28
noncomputable abbrev afG:Stmt:=top 23
noncomputable abbrev agP:Stmt:=top 24
noncomputable abbrev aBH:Stmt:=top 39
noncomputable abbrev amV:Stmt:=top 65
noncomputable abbrev agB:Stmt:=top 66
noncomputable abbrev ak2:Stmt:=top 67
noncomputable abbrev afT:Stmt:=top 68
noncomputable abbrev akW:Stmt:=top 69
noncomputable abbrev aeY:Stmt:=top 70
noncomputable abbrev ah6:Stmt:=top 71
noncomputable abbrev agX:Stmt:=top 72
noncomputable abbrev agM:Stmt:=top 82
noncomputable abbrev akA:Stmt:=top 83
noncomputable abbrev aeU:Stmt:=top 84
noncomputable abbrev aiA:Stmt:=top 85
noncomputable abbrev aiH:Stmt:=aaW (top 86) 0
noncomputable abbrev acD:Stmt:=aaW (top 87) 0
noncomputable abbrev ad7:Stmt:=aaW (top 87) 1
noncomputable abbrev aa2:Stmt:=aaW (top 88) 0
noncomputable abbrev aiQ:Stmt:=aaW (top 88) 1
noncomputable abbrev adY:Stmt:=aaW (top 89) 0
noncomputable abbrev ah9:Stmt:=aaW (top 89) 1
noncomputable abbrev adW:Stmt:=aaW (top 90) 0
noncomputable abbrev ab4:Stmt:=aaW (top 91) 0
noncomputable abbrev adX:Stmt:=aaW (top 91) 1
noncomputable abbrev aeX:Stmt:=aaW (top 92) 0
noncomputable abbrev akH:Stmt:=aaW (top 92) 1
noncomputable abbrev acB:Stmt:=aaW (top 93) 0
noncomputable abbrev aeA:Stmt:=aaW (top 93) 1
noncomputable abbrev akD:Stmt:=top 94
noncomputable abbrev adQ:Stmt:=top 95
noncomputable abbrev aeP:Stmt:=top 96
noncomputable abbrev ab2:Stmt:=top 97
noncomputable abbrev agI:Stmt:=top 98
noncomputable abbrev aiO:Stmt:=top 99
noncomputable abbrev adO:Stmt:=top 100
noncomputable abbrev akL:Stmt:=top 35
noncomputable abbrev akF:Stmt:=top 110
noncomputable abbrev am9:Stmt:=top 111
noncomputable abbrev aeL:Stmt:=aaW (top 112) 0
noncomputable abbrev afD:Stmt:=aaW (top 112) 5
noncomputable abbrev ah4:Stmt:=top 113
noncomputable abbrev am0:Stmt:=top 114
noncomputable abbrev akO:Stmt:=top 115
noncomputable abbrev afH:Stmt:=aaW (top 112) 8
noncomputable abbrev aiC:Stmt:=aaW (top 112) 7
noncomputable abbrev agG:Stmt:=top 36
noncomputable abbrev ad6:Stmt:=top 37
noncomputable abbrev aj7:Stmt:=top 56
noncomputable abbrev agQ:Stmt:=top 54
noncomputable abbrev aqL:Stmt:=top 40
noncomputable abbrev ad1:Stmt:=top 48
noncomputable abbrev akI:Stmt:=top 49
noncomputable abbrev afR:Stmt:=top 47
noncomputable abbrev aj8:Stmt:=top 50
noncomputable abbrev afQ:Stmt:=aaW (top 112) 6
noncomputable abbrev agZ:Stmt:=top 55
noncomputable abbrev ajX:Stmt:=top 57
noncomputable abbrev aj5:Stmt:=top 58
noncomputable abbrev aiD:Stmt:=top 59
noncomputable abbrev amU:Stmt:=top 60
noncomputable abbrev aeC:Stmt:=top 117
noncomputable abbrev ah5:Stmt:=top 118
noncomputable abbrev afK:Stmt:=top 119
noncomputable abbrev aiP:Stmt:=top 120
noncomputable abbrev aeN:Stmt:=top 121
noncomputable abbrev ah8:Stmt:=top 122
noncomputable abbrev adR:Stmt:=top 123
noncomputable abbrev aiL:Stmt:=top 124
noncomputable abbrev agN:Stmt:=top 125
noncomputable abbrev afM:Stmt:=top 126
noncomputable abbrev ad4:Stmt:=top 127
noncomputable abbrev agY:Stmt:=top 128
noncomputable abbrev amE:Stmt:=top 129
noncomputable def aa7(y:Int):Bool:=decide (y%4=0)&&(!decide (y%100=0)||decide (y%400=0))
noncomputable def mb(y s:Int):Int:=(y+s-1) / s
noncomputable def db(y:Int):Int:=365*y+(mb y 4-mb y 100+mb y 400)
noncomputable def lasts:List Int:=[31,28,31,30,31,30,31,31,30,31,30,31]
noncomputable def aaP(y:Int):Int:=if aa7 y=true then 1 else 0
noncomputable def aaD(y m:Int):Int:=if m=2 then 28+aaP y else lasts.getD (m-1).toNat 0
theorem acG(y:Int):aa7 y=true↔(y%4=0/\(y%100≠0∨y%400=0)):=by
 unfold aa7
 simp
theorem ap0{y:Int}(h:y%4=0/\(y%100≠0∨y%400=0)):aa7 y=true:=(acG y).mpr h
theorem arA{y:Int}(h:¬(y%4=0/\(y%100≠0∨y%400=0))):aa7 y=false:=by
 cases e:aa7 y
 ·rfl
 ·exact absurd ((acG y).mp e) h
theorem apD(y:Int):0<=aaP y/\aaP y<=1:=by
 unfold aaP
 split<;>omega
theorem atG(y:Int):db y=365*y+((y+3) / 4-(y+99) / 100+(y+399) / 400):=by
 have e1:y+4-1=y+3:=by omega
 have e2:y+100-1=y+99:=by omega
 have e3:y+400-1=y+399:=by omega
 unfold db mb
 rw[e1,e2,e3]
theorem ajT(y:Int):db (y+1)-db y=365+aaP y:=by
 unfold aaP
 by_cases h:aa7 y=true
 ·rw[if_pos h]
  rw[acG] at h
  unfold db mb
  omega
 ·rw[if_neg h]
  rw[acG] at h
  unfold db mb
  omega
theorem ao8{m:Int}(h1:1<=m)(h2:m<=12):atI (lasts.map V.int) (m-1)=some (V.int (lasts.getD (m-1).toNat 0)):=by
 have hk:(m-1).toNat<12:=by omega
 have e:m-1=(((m-1).toNat:Nat):Int):=by omega
 rw[e]
 refine ae2 ?_
 rw[bQ]
 generalize (m-1).toNat=j at hk
 match j,hk with
 |0,_ | 1,_ | 2,_ | 3,_ | 4,_ | 5,_ | 6,_ | 7,_ | 8,_ | 9,_ | 10,_ | 11,_=>rfl
 |n+12,h=>exact absurd h (by omega)
noncomputable def ahN(y:Int):Nat->Int
 |0=>0
 |n+1=>ahN y n+aaD y ((n:Int)+1)
noncomputable def ahead(y m:Int):Int:=ahN y (m-1).toNat
theorem ac7{y m:Int}(h:1<=m):ahead y (m+1)=ahead y m+aaD y m:=by
 have e:(m+1-1).toNat=(m-1).toNat+1:=by omega
 have e2:(((m-1).toNat:Nat):Int)+1=m:=by omega
 unfold ahead
 rw[e]
 show ahN y (m-1).toNat+aaD y (((m-1).toNat:Int)+1)=_
 rw[e2]
theorem akT(y:Int):ahead y 13=365+aaP y:=by
 show 0+aaD y 1+aaD y 2+aaD y 3+aaD y 4+aaD y 5+aaD y 6+aaD y 7+aaD y 8+aaD y 9+aaD y 10+aaD y 11+aaD y 12=_
 have e2:aaD y 2=28+aaP y:=rfl
 rw[e2]
 show 0+31+(28+aaP y)+31+30+31+30+31+31+30+31+30+31=_
 omega
theorem amW{y m:Int}(h1:1<=m)(h2:m<=12):28<=aaD y m:=by
 have hl:=apD y
 unfold aaD
 split
 ·omega
 ·have hk:(m-1).toNat<12:=by omega
  generalize (m-1).toNat=j at hk
  match j,hk with
  |0,_ | 1,_ | 2,_ | 3,_ | 4,_ | 5,_ | 6,_ | 7,_ | 8,_ | 9,_ | 10,_ | 11,_=>decide
  |n+12,h=>exact absurd h (by omega)
theorem auB(y:Int):∀n:Nat,((List.range n).map fun i:Nat=>aaD y (1+(i:Int))).sum=ahN y n
 |0=>rfl
 |n+1=>by
  rw[amG,List.sum_append,auB y n]
  show ahN y n+(aaD y (1+(n:Int))+0)=ahN y n+aaD y ((n:Int)+1)
  rw[Int.add_comm 1 (n:Int),Int.add_zero]
noncomputable def akS(k:Int):List Int:=if k / 7=12 then [2,29,k%7] else [k / 7+1,aaD 1 (k / 7+1),k%7]
noncomputable def mnA(k:Int):Int:=if k / 7=12 then 2 else k / 7+1
noncomputable def lnA(k:Int):Int:=if k / 7=12 then 29 else aaD 1 (k / 7+1)
theorem agT(k:Int):akS k=[mnA k,lnA k,k%7]:=by
 unfold akS mnA lnA
 split<;>rfl
theorem aAG:∀n:Nat,n<91->(1<=mnA n/\mnA n<=12)/\(28<=lnA n/\lnA n<=31):=by decide +kernel
theorem agV{k:Int}(h0:0<=k)(h1:k<=90):(1<=mnA k/\mnA k<=12)/\Lf (lnA k) (k%7):=by
 have z:=aAG k.toNat (by omega)
 rw[bF h0] at z
 exact⟨z.1,z.2,by omega,by omega⟩
noncomputable def DVn(c:Cs)(D:Addr)(H:Hp)(v:V)(ko:Option (List Mk)):Prop:=DV c H v ko/\∀p,v=.ref p->p≠D
theorem DVn.keep{c:Cs}{D:Addr}{H H':Hp}(s:Same H H'){v:V}{ko:Option (List Mk)}(h:DVn c D H v ko):DVn c D H' v ko:=⟨h.1.keep s,h.2⟩
theorem DVn.upd{c:Cs}{D:Addr}{H:Hp}{l':List V}{v:V}:∀{ko:Option (List Mk)},DVn c D H v ko->(∃l,H D=some (.lst l))->DVn c D (upd H D (.lst l')) v ko
 |none,h,_=>h
 |some ks,⟨⟨p,qs,e,h1,h2,h3⟩,hn⟩,⟨l,hl⟩=>⟨⟨p,qs,e,by rw[aaF (hn p e)];exact h1,h2.keepM (akG hl),h3⟩,hn⟩
noncomputable def RR(c:Cs)(m0 m1 m3:Int)(kd kw:Option (List Mk))(D:Addr)(i:Nat)(l:List V)(H:Hp):Prop:=match i with
 |0=>l=[]
 |1=>l=[.int m0]
 |2=>l=[.int m0,.int m1]
 |3=>∃dv,l=[.int m0,.int m1,dv]/\DVn c D H dv kd
 |4=>∃dv,l=[.int m0,.int m1,dv,.int m3]/\DVn c D H dv kd
 |_=>∃dv wv,l=[.int m0,.int m1,dv,.int m3,wv]/\DVn c D H dv kd/\DVn c D H wv kw
theorem RR.keep{c:Cs}{m0 m1 m3:Int}{kd kw:Option (List Mk)}{D:Addr}{l:List V}{H H':Hp}(s:Same H H'):∀{i:Nat},RR c m0 m1 m3 kd kw D i l H->RR c m0 m1 m3 kd kw D i l H'
 |0,h=>h
 |1,h=>h
 |2,h=>h
 |3,⟨dv,e,h⟩=>⟨dv,e,h.keep s⟩
 |4,⟨dv,e,h⟩=>⟨dv,e,h.keep s⟩
 |_+5,⟨dv,wv,e,h,h'⟩=>⟨dv,wv,e,h.keep s,h'.keep s⟩
theorem RR.upd{c:Cs}{m0 m1 m3:Int}{kd kw:Option (List Mk)}{D:Addr}{l l':List V}{H:Hp}(hl:∃l,H D=some (.lst l)):∀{i:Nat},RR c m0 m1 m3 kd kw D i l H->RR c m0 m1 m3 kd kw D i l (upd H D (.lst l'))
 |0,h=>h
 |1,h=>h
 |2,h=>h
 |3,⟨dv,e,h⟩=>⟨dv,e,h.upd hl⟩
 |4,⟨dv,e,h⟩=>⟨dv,e,h.upd hl⟩
 |_+5,⟨dv,wv,e,h,h'⟩=>⟨dv,wv,e,h.upd hl,h'.upd hl⟩
theorem aAD{ws:List (List Nat)}(h:∀w∈ws,w≠[]):inV (.str (Tx [])) (ws.map fun q=>V.str (Tx q))=false:=by
 unfold inV
 rw[List.any_map,cW]
 intro w hw hc
 have e:Tx w=Tx []:=beq_iff_eq.mp (show (Tx w==Tx [])=true from hc)
 exact h w hw (by have:=congrArg (fun z=>z.cps.toList) e;simpa [Tx] using this)
noncomputable def abQ(m0 m1:Int)(dv:V)(m3:Int)(wv:V)(tm:Int):List (Str×V):=aaR "time_mask" (.int tm) (aaR "weekday_marks" wv (aaR "month_mask" (.int m3) (aaR "day_marks" dv (aaR "hour_mask" (.int m1) (aaR "minute_mask" (.int m0) [])))))
theorem acV(m0 m1:Int)(dv:V)(m3:Int)(wv:V)(tm:Int):(abQ m0 m1 dv m3 wv tm).lookup ("minute_mask":Str)=some (.int m0):=by
 unfold abQ
 rw[aaE,if_neg (by decide +kernel),aaE,if_neg (by decide +kernel),aaE,if_neg (by decide +kernel),aaE,if_neg (by decide +kernel),aaE,if_neg (by decide +kernel),aaE,if_pos rfl]
theorem aeW(m0 m1:Int)(dv:V)(m3:Int)(wv:V)(tm:Int):(abQ m0 m1 dv m3 wv tm).lookup ("hour_mask":Str)=some (.int m1):=by
 unfold abQ
 rw[aaE,if_neg (by decide +kernel),aaE,if_neg (by decide +kernel),aaE,if_neg (by decide +kernel),aaE,if_neg (by decide +kernel),aaE,if_pos rfl]
theorem ajZ(m0 m1:Int)(dv:V)(m3:Int)(wv:V)(tm:Int):(abQ m0 m1 dv m3 wv tm).lookup ("day_marks":Str)=some (dv):=by
 unfold abQ
 rw[aaE,if_neg (by decide +kernel),aaE,if_neg (by decide +kernel),aaE,if_neg (by decide +kernel),aaE,if_pos rfl]
theorem adZ(m0 m1:Int)(dv:V)(m3:Int)(wv:V)(tm:Int):(abQ m0 m1 dv m3 wv tm).lookup ("month_mask":Str)=some (.int m3):=by
 unfold abQ
 rw[aaE,if_neg (by decide +kernel),aaE,if_neg (by decide +kernel),aaE,if_pos rfl]
theorem af1(m0 m1:Int)(dv:V)(m3:Int)(wv:V)(tm:Int):(abQ m0 m1 dv m3 wv tm).lookup ("weekday_marks":Str)=some (wv):=by
 unfold abQ
 rw[aaE,if_neg (by decide +kernel),aaE,if_pos rfl]
theorem ak4(m0 m1:Int)(dv:V)(m3:Int)(wv:V)(tm:Int):(abQ m0 m1 dv m3 wv tm).lookup ("time_mask":Str)=some (.int tm):=by
 unfold abQ
 rw[aaE,if_pos rfl]
theorem ab0(m0 m1:Int)(dv:V)(m3:Int)(wv:V)(tm:Int):(abQ m0 m1 dv m3 wv tm).lookup ("days_in":Str)=none:=by
 unfold abQ
 rw[aaE,if_neg (by decide +kernel),aaE,if_neg (by decide +kernel),aaE,if_neg (by decide +kernel),aaE,if_neg (by decide +kernel),aaE,if_neg (by decide +kernel),aaE,if_neg (by decide +kernel)]
 rfl
theorem abP(m0 m1:Int)(dv:V)(m3:Int)(wv:V)(tm:Int):(abQ m0 m1 dv m3 wv tm).lookup ("shut_by":Str)=none:=by
 unfold abQ
 rw[aaE,if_neg (by decide +kernel),aaE,if_neg (by decide +kernel),aaE,if_neg (by decide +kernel),aaE,if_neg (by decide +kernel),aaE,if_neg (by decide +kernel),aaE,if_neg (by decide +kernel)]
 rfl
theorem ai1(m0 m1:Int)(dv:V)(m3:Int)(wv:V)(tm:Int):(abQ m0 m1 dv m3 wv tm).lookup ("on_days":Str)=none:=by
 unfold abQ
 rw[aaE,if_neg (by decide +kernel),aaE,if_neg (by decide +kernel),aaE,if_neg (by decide +kernel),aaE,if_neg (by decide +kernel),aaE,if_neg (by decide +kernel),aaE,if_neg (by decide +kernel)]
 rfl
theorem afO(m0 m1:Int)(dv:V)(m3:Int)(wv:V)(tm:Int):(abQ m0 m1 dv m3 wv tm).lookup ("holds":Str)=none:=by
 unfold abQ
 rw[aaE,if_neg (by decide +kernel),aaE,if_neg (by decide +kernel),aaE,if_neg (by decide +kernel),aaE,if_neg (by decide +kernel),aaE,if_neg (by decide +kernel),aaE,if_neg (by decide +kernel)]
 rfl
noncomputable def SV(b:Bool)(H:Hp)(v:V):Option (List Mk)->Prop
 |none=>v=.non
 |some ks=>∃p us,v=.ref p/\H p=some (.lst (us.map V.ref))/\Ft (TpAt b H) us ks
theorem SV.keep{b:Bool}{H H':Hp}(s:Same H H'){v:V}:∀{ko:Option (List Mk)},SV b H v ko->SV b H' v ko
 |none,h=>h
 |some _,⟨p,us,e,h1,h2⟩=>⟨p,us,e,s _ _ h1,h2.keepT s.keep⟩
theorem c42{a b:List Nat}(h1:42∉a)(h2:42∉b):42∉a++b:=fun h=>(bM.mp h).elim h1 h2
theorem arS{b:Bool}:∀{ws:List (List Nat)} {ks:List Mk} {t:List Nat} {k:Mk},Ws b ws ks->Cl t/\SpT b t k->Ws b (ws++[t]) (ks++[k])
 |_,_,_,_,.nil,h=>.cons h .nil
 |_,_,_,_,.cons r t,h=>.cons r (arS t h)
theorem ab8{lo hi:Int}:∀{ws:List (List Nat)} {nss:List (List Int)},Paired (adP lo hi) ws nss->(∀w∈ws,Cl w)/\(∀n∈nss.flatten,lo<=n/\n<=hi)/\nss.flatten.length<=64*ws.length
 |_,_,.nil=>⟨fun w hw=>(nomatch hw),fun n hn=>(nomatch hn),aS _⟩
 |w::ws,ns::nss,.cons r t=>by
  obtain⟨h1,h2,h3⟩:=ab8 t
  refine⟨fun v hv=>?_,fun n hn=>?_,?_⟩
  ·rcases bB.mp hv with z | z
   ·subst z;exact r.2.1
   ·exact h1 v z
  ·rw[cT] at hn
   exact (bM.mp hn).elim (r.2.2.1 n) (h2 n)
  ·rw[cT,aW,bU]
   have:=r.2.2.2.2
   omega
theorem azA{lo hi:Int}:∀{ws:List (List Nat)} {nss:List (List Int)},Paired (adP lo hi) ws nss->ws≠[]->nss.flatten≠[]
 |_,_,.nil,h=>absurd rfl h
 |_,_,.cons r _,_=>fun e=>r.2.2.2.1 (by rw[cT,List.append_eq_nil_iff] at e;exact e.1)
theorem acR{α β:Type}{F:α->β->Prop}:∀{l:List α} {r:List β} {a:α} {b:β},Paired F l r->F a b->Paired F (l++[a]) (r++[b])
 |_,_,_,_,.nil,h=>.cons h .nil
 |_,_,_,_,.cons x t,h=>.cons x (acR t h)
theorem ajY{b:Bool}{ko:Option (List Mk)}{a l f:Int}(h:Lf l f)(o:∀ks,ko=some ks->∀k∈ks,k.ok)(ha:0<=a):0<=orO ko a l f:=by
 cases ko with
 |none=>exact ha
 |some ks=>exact alC ha (awE h (o ks rfl))
theorem aEJ{a m:Int}{k:Nat}(ha:0<=a)(hk:a<2^k)(hm:0<=m):Builtin.bitOr a (m*2^k)=a+m*2^k:=by
 obtain⟨x,rfl⟩:=cG ha
 obtain⟨y,rfl⟩:=cG hm
 have e:((y:Int)*2^k)=((y*2^k:Nat):Int):=by rw[Int.natCast_mul,aaY]
 have hx:x<2^k:=by have:=aaY k;omega
 rw[e,aoK,Nat.or_comm,←Nat.shiftLeft_eq,←Nat.shiftLeft_add_eq_or_of_lt hx,Nat.shiftLeft_eq]
 omega
noncomputable def tmF(h m:Int):Int:=orM ((ap9 h).map fun z=>m*2^(60*z).toNat)
theorem auJ{h m:Int}(hm:0<=m)(hm2:m<2^60):∀n:Nat,orM ((flt (tb h) 0 n).map fun z=>m*2^(60*z).toNat)=((flt (tb h) 0 n).map fun z=>m*2^(60*z).toNat).sum/\0<=((flt (tb h) 0 n).map fun z=>m*2^(60*z).toNat).sum/\((flt (tb h) 0 n).map fun z=>m*2^(60*z).toNat).sum<2^(60*n)
 |0=>by rw[ak9];exact⟨rfl,aX 0,(by decide:(0:Int)<2^0)⟩
 |n+1=>by
  obtain⟨h1,h2,h3⟩:=auJ hm hm2 n
  have p60:(2:Int)^(60*(n+1))=2^(60*n)*2^60:=by rw[show 60*(n+1)=60*n+60 by omega,Int.pow_add]
  have p0:=aaO (60*n)
  cases c:tb h n
  ·rw[an7 c,p60]
   refine⟨h1,h2,Int.lt_of_lt_of_le h3 ?_⟩
   have:(2:Int)^(60*n)*1<=2^(60*n)*2^60:=Int.mul_le_mul_of_nonneg_left (by decide) (bJ p0)
   omega
  ·have ez:(60*(0+(n:Int))).toNat=60*n:=by omega
   have hb:(m+1)*2^(60*n)<=2^60*2^(60*n):=Int.mul_le_mul_of_nonneg_right (by omega) (bJ p0)
   have hn2:0<=m*2^(60*n):=Int.mul_nonneg hm (bJ p0)
   rw[an8 c,bC,List.map_singleton,aeS,List.sum_append,h1,ez,aEJ h2 h3 hm,p60]
   rw[Int.add_mul,Int.mul_comm (2^60)] at hb
   refine⟨by simp,?_,?_⟩
   ·show 0<=_+(m*2^(60*n)+0)
    omega
   ·show _+(m*2^(60*n)+0)<_
    omega
theorem auM{a b:Int}(h:a+1<=b):db (a+1)<=db b:=by rw[atG,atG];omega
theorem aB0{q z:Int}(h:0<=z):db (q*400+z)<=146097*q+366*z:=by rw[atG];omega
noncomputable def OkD(y m k:Int):Prop:=(1<=m/\m<=12)/\1<=k/\k<=aaD y m
noncomputable def adI(y m k:Int):Int:=db y+ahead y m+k-1
theorem axR(y:Int):∀(n d:Nat),n+d<=12->ahN y n<=ahN y (n+d)
 |_,0,_=>aX _
 |n,d+1,h=>by
  have h1:=axR y n d (by omega)
  have h2:28<=aaD y (((n+d:Nat):Int)+1):=amW (by omega) (by omega)
  show ahN y n<=ahN y (n+d)+aaD y (((n+d:Nat):Int)+1)
  omega
theorem agK{y m n:Int}(h1:1<=m)(h2:m<=n)(h3:n<=13):ahead y m<=ahead y n:=by
 have e:(n-1).toNat=(m-1).toNat+(n-m).toNat:=by omega
 unfold ahead
 rw[e]
 exact axR y _ _ (by omega)
theorem awQ{y m k:Int}(h:OkD y m k):db y<=adI y m k/\adI y m k<db (y+1)/\adI y m k<db y+ahead y (m+1):=by
 obtain⟨⟨h1,h2⟩,h3,h4⟩:=h
 have a1:=ac7 (y:=y) h1
 have a2:ahead y (m+1)<=ahead y 13:=agK (by omega) (by omega) (by omega)
 have a3:=akT y
 have a4:=ajT y
 have a5:ahead y 1<=ahead y m:=agK (by omega) h1 (by omega)
 have a6:ahead y 1=0:=rfl
 unfold adI
 omega
theorem auS{y m k y' m' k':Int}(h:OkD y m k)(h':OkD y' m' k')(e:adI y m k=adI y' m' k'):y=y'/\m=m'/\k=k':=by
 have b:=awQ h
 have b':=awQ h'
 have ey:y=y':=by
  rcases dG y y' with z | z | z
  ·have:=auM (a:=y) (b:=y') (by omega)
   omega
  ·exact z
  ·have:=auM (a:=y') (b:=y) (by omega)
   omega
 subst ey
 have em:m=m':=by
  rcases dG m m' with z | z | z
  ·have:=agK (y:=y) (m:=m+1) (n:=m') (by have:=h.1.1;omega) (by omega) (by have:=h'.1.2;omega)
   have q1:=h'.2.1
   have q2:adI y m' k'=db y+ahead y m'+k'-1:=rfl
   omega
  ·exact z
  ·have:=agK (y:=y) (m:=m'+1) (n:=m) (by have:=h'.1.1;omega) (by omega) (by have:=h.1.2;omega)
   have q1:=h.2.1
   have q2:adI y m k=db y+ahead y m+k-1:=rfl
   omega
 subst em
 unfold adI at e
 exact⟨rfl,rfl,by omega⟩
noncomputable def plc(y m:Int):Int:=if m=2/\aa7 y=true then 12 else m-1
noncomputable def kindOf(y m:Int):Int:=7*plc y m+(db y+ahead y m+6)%7
theorem ayD{y m:Int}(h1:1<=m)(h2:m<=12):0<=plc y m/\plc y m<=12:=by
 unfold plc
 split<;>omega
theorem ajS{y m:Int}(h1:1<=m)(h2:m<=12):0<=kindOf y m/\kindOf y m<=90:=by
 have:=ayD (y:=y) h1 h2
 unfold kindOf
 omega
theorem amY{y m:Int}(h:¬m=2):aaD y m=lasts.getD (m-1).toNat 0:=by unfold aaD;rw[if_neg h]
theorem axK{y m:Int}(h1:1<=m)(h2:m<=12):akS (kindOf y m)=[m,aaD y m,kindOf y m%7]:=by
 have hp:=ayD (y:=y) h1 h2
 have e:kindOf y m / 7=plc y m:=by unfold kindOf;omega
 unfold akS
 rw[e]
 by_cases c:m=2/\aa7 y=true
 ·have ep:plc y m=12:=by unfold plc;rw[if_pos c]
  have el:aaD y m=29:=by unfold aaD aaP;rw[if_pos c.1,if_pos c.2];rfl
  rw[ep,if_pos rfl,el,c.1]
 ·have ep:plc y m=m-1:=by unfold plc;rw[if_neg c]
  rw[ep,if_neg (by omega)]
  have e1:m-1+1=m:=by omega
  rw[e1]
  have el:aaD 1 m=aaD y m:=by
   by_cases c2:m=2
   ·have hl:¬aa7 y=true:=fun z=>c ⟨c2,z⟩
    unfold aaD aaP
    rw[if_pos c2,if_pos c2,if_neg hl]
    rfl
   ·rw[amY c2,amY c2]
  rw[el]
theorem ab9{y m:Int}(h1:1<=m)(h2:m<=12):mnA (kindOf y m)=m/\lnA (kindOf y m)=aaD y m:=by
 have e:=axK (y:=y) h1 h2
 rw[agT] at e
 injection e with e1 e
 injection e with e2 e
 exact⟨e1,e2⟩
theorem amR{y m:Int}(h1:1<=m)(h2:m<=12):28<=aaD y m/\aaD y m<=31:=by
 have e:=ab9 (y:=y) h1 h2
 have k:=ajS (y:=y) h1 h2
 rw[←e.2]
 exact (agV k.1 k.2).2.1
noncomputable def shK(m0 m1 m3:Int)(kd kw:Option (List Mk))(d r y m k:Int):V:=
 if tb m3 m.toNat=false then .str (Tx [109,111,110,116,104]) else if tb (abK kd kw (aaD y m) ((d-k+1+6)%7)) k.toNat=false then .str (Tx [100,97,121])
 else if tb m1 (r / 60).toNat=false then .str (Tx [104,111,117,114]) else if tb m0 (r%60).toNat=false then .str (Tx [109,105,110,117,116,101]) else .non
section
variable{m0 m1 m3:Int}{kd kw:Option (List Mk)}{d r y m k:Int}
theorem sh1(h:tb m3 m.toNat=false):shK m0 m1 m3 kd kw d r y m k=.str (Tx [109,111,110,116,104]):=if_pos h
theorem sh2(h1:tb m3 m.toNat=true)(h:tb (abK kd kw (aaD y m) ((d-k+1+6)%7)) k.toNat=false):shK m0 m1 m3 kd kw d r y m k=.str (Tx [100,97,121]):=by
 unfold shK
 rw[if_neg (by rw[h1];decide),if_pos h]
theorem sh3(h1:tb m3 m.toNat=true)(h2:tb (abK kd kw (aaD y m) ((d-k+1+6)%7)) k.toNat=true)(h:tb m1 (r / 60).toNat=false):shK m0 m1 m3 kd kw d r y m k=.str (Tx [104,111,117,114]):=by
 unfold shK
 rw[if_neg (by rw[h1];decide),if_neg (by rw[h2];decide),if_pos h]
theorem sh4(h1:tb m3 m.toNat=true)(h2:tb (abK kd kw (aaD y m) ((d-k+1+6)%7)) k.toNat=true)(h3:tb m1 (r / 60).toNat=true)(h:tb m0 (r%60).toNat=false):shK m0 m1 m3 kd kw d r y m k=.str (Tx [109,105,110,117,116,101]):=by
 unfold shK
 rw[if_neg (by rw[h1];decide),if_neg (by rw[h2];decide),if_neg (by rw[h3];decide),if_pos h]
theorem sh5(h1:tb m3 m.toNat=true)(h2:tb (abK kd kw (aaD y m) ((d-k+1+6)%7)) k.toNat=true)(h3:tb m1 (r / 60).toNat=true)(h:tb m0 (r%60).toNat=true):shK m0 m1 m3 kd kw d r y m k=.non:=by
 unfold shK
 rw[if_neg (by rw[h1];decide),if_neg (by rw[h2];decide),if_neg (by rw[h3];decide),if_neg (by rw[h];decide)]
theorem ajO(hk:OkD y m k)(e:adI y m k=d):kindOf y m%7=(d-k+1+6)%7:=by
 unfold kindOf
 unfold adI at e
 omega
theorem ayI(hk:OkD y m k):Lf (aaD y m) ((d-k+1+6)%7):=⟨amR hk.1.1 hk.1.2,by omega,by omega⟩
end
theorem ab3{b:Bool}(h:¬b=false):b=true:=by simpa using h
theorem aqX{kd kw:Option (List Mk)}{l f:Int}(h:Lf l f)(od:∀ks,kd=some ks->∀k∈ks,k.ok)(ow:∀ks,kw=some ks->∀k∈ks,k.ok):0<=abK kd kw l f:=by
 unfold abK
 split
 ·have:=aaO l.toNat
  have:(2:Int)^l.toNat ≥ 1:=by omega
  omega
 ·exact ajY (b:=true) h ow (ajY (b:=false) h od (aX 0))
theorem amP{c:Cs}{H:Hp}{v:V}:∀{ko:Option (List Mk)},DV c H v ko->∀ks,ko=some ks->∀k∈ks,k.ok
 |some _,⟨_,_,_,_,_,h⟩,_,rfl=>h
theorem auD{zs:List Int}{i:Int}(h0:0<=i)(h1:i<zs.length):∃z,atI (zs.map V.int) i=some (V.int z):=by
 have hk:i.toNat<zs.length:=by omega
 have e:i=((i.toNat:Nat):Int):=by omega
 rw[e]
 exact⟨zs[i.toNat],ae2 (by rw[bE,cJ hk];rfl)⟩
noncomputable def tabA:List Nat:=[0,31,59,90,120,151,181,212,243,273,304,334]
noncomputable def codes:List Nat:=[13,1,2,3,11,6,0,1,9,4,5,6,7,2,3,4,12,0,1,2,10,5,6,0,8,3,4,5,13,1,2,3,11,6,0,1,9,4,5,6,7,2,3,4,12,0,1,2,10,5,6,0,8,3,4,5,13,1,2,3,11,6,0,1,9,4,5,6,7,2,3,4,12,0,1,2,10,5,6,0,8,3,4,5,13,1,2,3,11,6,0,1,9,4,5,6,7,2,3,4,5,6,0,1,9,4,5,6,7,2,3,4,12,0,1,2,10,5,6,0,8,3,4,5,13,1,2,3,11,6,0,1,9,4,5,6,7,2,3,4,12,0,1,2,10,5,6,0,8,3,4,5,13,1,2,3,11,6,0,1,9,4,5,6,7,2,3,4,12,0,1,2,10,5,6,0,8,3,4,5,13,1,2,3,11,6,0,1,9,4,5,6,7,2,3,4,12,0,1,2,3,4,5,6,7,2,3,4,12,0,1,2,10,5,6,0,8,3,4,5,13,1,2,3,11,6,0,1,9,4,5,6,7,2,3,4,12,0,1,2,10,5,6,0,8,3,4,5,13,1,2,3,11,6,0,1,9,4,5,6,7,2,3,4,12,0,1,2,10,5,6,0,8,3,4,5,13,1,2,3,11,6,0,1,9,4,5,6,7,2,3,4,12,0,1,2,10,5,6,0,1,2,3,4,12,0,1,2,10,5,6,0,8,3,4,5,13,1,2,3,11,6,0,1,9,4,5,6,7,2,3,4,12,0,1,2,10,5,6,0,8,3,4,5,13,1,2,3,11,6,0,1,9,4,5,6,7,2,3,4,12,0,1,2,10,5,6,0,8,3,4,5,13,1,2,3,11,6,0,1,9,4,5,6,7,2,3,4,12,0,1,2,10,5,6,0,8,3,4,5,13,1,2,3,11,6,0,1,9,4,5,6,7,2,3,4,12,0,1,2,10,5,6,0,8,3,4,5,13,1,2,3,11,6,0,1,9,4,5,6]
noncomputable def afJ(y:Nat):Nat:=(if (y%4==0&&(y%100 !=0||y%400==0))=true then 7 else 0)+(365*y+(y+3) / 4-(y+99) / 100+(y+399) / 400+6)%7
theorem aqF:(List.range 440).map afJ=codes:=by decide +kernel
noncomputable def alF(c m:Nat):Nat:=7*(if (Nat.beq m 1&&Nat.ble 7 c)=true then 12 else m)+(c%7+tabA.getD m 0+(if (Nat.ble 2 m&&Nat.ble 7 c)=true then 1 else 0))%7
noncomputable def aq1(k:Nat):Nat:=if Nat.ble 84 k=true then 1 else k / 7
noncomputable def ak5(k:Nat):Nat:=if Nat.ble 84 k=true then 40 else 12
noncomputable def aeV(k b:Nat):List Nat->Nat->Bool
 |[],_=>true
 |c::r,a=>if Nat.beq (alF c (aq1 k)) k=true then aeV k b r b else (Nat.ble 2 a&&aeV k b r (a-1))
theorem ayR:∀k:Nat,k<91->aeV k (ak5 k) codes (ak5 k)=true:=by decide +kernel
theorem ahG(k b:Nat)(hb:1<=b):∀(n:Nat) (l:List Nat) (a:Nat),1<=a->a<=b->aeV k b l a=true->∃a',1<=a'/\a'<=b/\aeV k b (l.drop n) a'=true
 |0,_,a,h0,h1,h=>⟨a,h0,h1,h⟩
 |n+1,[],a,h0,h1,_=>⟨a,h0,h1,rfl⟩
 |n+1,c::r,a,h0,h1,h=>by
  have h:(if Nat.beq (alF c (aq1 k)) k=true then aeV k b r b else (Nat.ble 2 a&&aeV k b r (a-1)))=true:=h
  show ∃a',1<=a'/\a'<=b/\aeV k b (r.drop n) a'=true
  split at h
  ·exact ahG k b hb n r b hb (aS _) h
  ·rw[bH] at h
   have:2<=a:=dH h.1
   exact ahG k b hb n r (a-1) (by omega) (by omega) h.2
theorem aqM(k b:Nat):∀(l:List Nat) (a:Nat),1<=a->a<=l.length->aeV k b l a=true->∃j,j<a/\∃c,l[j]? =some c/\alF c (aq1 k)=k
 |[],a,h0,h1,_=>absurd h1 (by simp;omega)
 |c::r,a,h0,h1,h=>by
  have h:(if Nat.beq (alF c (aq1 k)) k=true then aeV k b r b else (Nat.ble 2 a&&aeV k b r (a-1)))=true:=h
  split at h
  ·rename_i q
   exact⟨0,by omega,c,rfl,Nat.eq_of_beq_eq_true q⟩
  ·rw[bH] at h
   have h2:2<=a:=dH h.1
   have h1':a<=r.length+1:=h1
   obtain⟨j,hj,c',e,q⟩:=aqM k b r (a-1) (by omega) (by omega) h.2
   exact⟨j+1,by omega,c',e,q⟩
theorem aEF{k:Nat}(hk:k<91){y:Nat}(hy:y<400):∃j,j<ak5 k/\alF (afJ (y+j)) (aq1 k)=k:=by
 have hb:1<=ak5 k/\ak5 k<=40:=by unfold ak5;split<;>omega
 obtain⟨a,a0,a1,h⟩:=ahG k (ak5 k) hb.1 y codes (ak5 k) hb.1 (aS _) (ayR k hk)
 have hl:codes.length=440:=by rw[←aqF,aU,dE]
 obtain⟨j,hj,c,e,q⟩:=aqM k (ak5 k) _ a a0 (by rw[List.length_drop,hl];omega) h
 rw[List.getElem?_drop,←aqF,bE,List.getElem?_range (by omega)] at e
 refine⟨j,by omega,?_⟩
 have e:afJ (y+j)=c:=bA e
 rw[e]
 exact q
theorem aJ7(y:Int):ahead y 1=0:=by
 show 0=_
 have e2:aaD y 2=28+aaP y:=rfl
 try rw[e2]
 show (0:Int)=_
 omega
theorem aFV(y:Int):ahead y 2=31:=by
 show 0+aaD y 1=_
 have e2:aaD y 2=28+aaP y:=rfl
 try rw[e2]
 show (0+31:Int)=_
 omega
theorem aOJ(y:Int):ahead y 3=59+aaP y:=by
 show 0+aaD y 1+aaD y 2=_
 have e2:aaD y 2=28+aaP y:=rfl
 try rw[e2]
 show (0+31+(28+aaP y):Int)=_
 omega
theorem aIG(y:Int):ahead y 4=90+aaP y:=by
 show 0+aaD y 1+aaD y 2+aaD y 3=_
 have e2:aaD y 2=28+aaP y:=rfl
 try rw[e2]
 show (0+31+(28+aaP y)+31:Int)=_
 omega
theorem aF7(y:Int):ahead y 5=120+aaP y:=by
 show 0+aaD y 1+aaD y 2+aaD y 3+aaD y 4=_
 have e2:aaD y 2=28+aaP y:=rfl
 try rw[e2]
 show (0+31+(28+aaP y)+31+30:Int)=_
 omega
theorem aKY(y:Int):ahead y 6=151+aaP y:=by
 show 0+aaD y 1+aaD y 2+aaD y 3+aaD y 4+aaD y 5=_
 have e2:aaD y 2=28+aaP y:=rfl
 try rw[e2]
 show (0+31+(28+aaP y)+31+30+31:Int)=_
 omega
theorem aHM(y:Int):ahead y 7=181+aaP y:=by
 show 0+aaD y 1+aaD y 2+aaD y 3+aaD y 4+aaD y 5+aaD y 6=_
 have e2:aaD y 2=28+aaP y:=rfl
 try rw[e2]
 show (0+31+(28+aaP y)+31+30+31+30:Int)=_
 omega
theorem aF9(y:Int):ahead y 8=212+aaP y:=by
 show 0+aaD y 1+aaD y 2+aaD y 3+aaD y 4+aaD y 5+aaD y 6+aaD y 7=_
 have e2:aaD y 2=28+aaP y:=rfl
 try rw[e2]
 show (0+31+(28+aaP y)+31+30+31+30+31:Int)=_
 omega
theorem aLA(y:Int):ahead y 9=243+aaP y:=by
 show 0+aaD y 1+aaD y 2+aaD y 3+aaD y 4+aaD y 5+aaD y 6+aaD y 7+aaD y 8=_
 have e2:aaD y 2=28+aaP y:=rfl
 try rw[e2]
 show (0+31+(28+aaP y)+31+30+31+30+31+31:Int)=_
 omega
theorem aJT(y:Int):ahead y 10=273+aaP y:=by
 show 0+aaD y 1+aaD y 2+aaD y 3+aaD y 4+aaD y 5+aaD y 6+aaD y 7+aaD y 8+aaD y 9=_
 have e2:aaD y 2=28+aaP y:=rfl
 try rw[e2]
 show (0+31+(28+aaP y)+31+30+31+30+31+31+30:Int)=_
 omega
theorem aA2(y:Int):ahead y 11=304+aaP y:=by
 show 0+aaD y 1+aaD y 2+aaD y 3+aaD y 4+aaD y 5+aaD y 6+aaD y 7+aaD y 8+aaD y 9+aaD y 10=_
 have e2:aaD y 2=28+aaP y:=rfl
 try rw[e2]
 show (0+31+(28+aaP y)+31+30+31+30+31+31+30+31:Int)=_
 omega
theorem aA9(y:Int):ahead y 12=334+aaP y:=by
 show 0+aaD y 1+aaD y 2+aaD y 3+aaD y 4+aaD y 5+aaD y 6+aaD y 7+aaD y 8+aaD y 9+aaD y 10+aaD y 11=_
 have e2:aaD y 2=28+aaP y:=rfl
 try rw[e2]
 show (0+31+(28+aaP y)+31+30+31+30+31+31+30+31+30:Int)=_
 omega
theorem atF(y:Int):(y%400).toNat<400/\((afJ (y%400).toNat:Nat):Int)=(if aa7 y=true then 7 else 0)+(db y+6)%7:=by
 have h0:=bR y (show (400:Int)≠0 by decide)
 have h1:=bZ y (show (0:Int)<400 by decide)
 refine⟨by omega,?_⟩
 have er:((y%400).toNat:Int)=y%400:=bF h0
 generalize (y%400).toNat=r at er
 have ed:=atG y
 have g1:(y+3) / 4=100*(y / 400)+((r:Int)+3) / 4:=by omega
 have g2:(y+99) / 100=4*(y / 400)+((r:Int)+99) / 100:=by omega
 have g3:(y+399) / 400=y / 400+((r:Int)+399) / 400:=by omega
 have g4:db y+6=7*(20871*(y / 400))+(365*r+(r+3) / 4-(r+99) / 100+(r+399) / 400+6):=by
  rw[ed,g1,g2,g3]
  omega
 have g5:(db y+6)%7=(365*(r:Int)+(r+3) / 4-(r+99) / 100+(r+399) / 400+6)%7:=by
  rw[g4]
  omega
 have e7:(365*r+(r+3) / 4-(r+99) / 100+(r+399) / 400+6)%7=((db y+6)%7).toNat:=by
  rw[show ((r:Int)+3) / 4=(((r+3) / 4:Nat):Int) by omega,show ((r:Int)+99) / 100=(((r+99) / 100:Nat):Int) by omega,show ((r:Int)+399) / 400=(((r+399) / 400:Nat):Int) by omega] at g5
  have hq:(r+99) / 100<=365*r+(r+3) / 4:=by omega
  rw[g5]
  generalize (r+3) / 4=q1 at hq ⊢
  generalize (r+99) / 100=q2 at hq ⊢
  generalize (r+399) / 400=q3
  omega
 have e8:=bR (db y+6) (show (7:Int)≠0 by decide)
 have il:=acG y
 unfold afJ
 rw[e7]
 by_cases c:aa7 y=true
 ·rw[if_pos c,if_pos ?_]
  ·omega
  ·have z:=il.mp c
   rw[bH,Bool.or_eq_true,beq_iff_eq,bne_iff_ne,beq_iff_eq]
   omega
 ·rw[if_neg c,if_neg ?_]
  ·omega
  ·intro z
   rw[bH,Bool.or_eq_true,beq_iff_eq,bne_iff_ne,beq_iff_eq] at z
   exact c (il.mpr (by omega))
theorem av9(y:Int){m:Nat}(hm:m<12):kindOf y ((m:Int)+1)=(alF (afJ (y%400).toNat) m:Nat):=by
 obtain⟨_,hc⟩:=atF y
 generalize afJ (y%400).toNat=c at hc
 unfold kindOf plc alF
 have e8:=bR (db y+6) (show (7:Int)≠0 by decide)
 have e9:=bZ (db y+6) (show (0:Int)<7 by decide)
 by_cases L:aa7 y=true
 ·rw[if_pos L] at hc
  have hL:aaP y=1:=by unfold aaP;rw[if_pos L]
  have hb:Nat.ble 7 c=true:=Nat.ble_eq_true_of_le (by omega)
  have hd:c%7=((db y+6)%7).toNat:=by omega
  rw[hb,hd]
  match m,hm with
  |0,_=>
   rw[show (((0:Nat):Int)+1)=1 from rfl,aJ7,if_neg (fun z=>absurd z.1 (by decide)),if_neg (by decide),if_neg (by decide)]
   show (_:Int)=((7*_+(_+0+_)%7:Nat):Int)
   omega
  |1,_=>
   rw[show (((1:Nat):Int)+1)=2 from rfl,aFV,if_pos ⟨rfl,L⟩,if_pos (show (Nat.beq 1 1&&true)=true by decide),if_neg (by decide)]
   show (_:Int)=((7*_+(_+31+_)%7:Nat):Int)
   omega
  |2,_=>
   rw[show (((2:Nat):Int)+1)=3 from rfl,aOJ,if_neg (fun z=>absurd z.1 (by decide)),if_neg (by decide),if_pos (show (Nat.ble 2 2&&true)=true by decide)]
   show (_:Int)=((7*_+(_+59+_)%7:Nat):Int)
   omega
  |3,_=>
   rw[show (((3:Nat):Int)+1)=4 from rfl,aIG,if_neg (fun z=>absurd z.1 (by decide)),if_neg (by decide),if_pos (show (Nat.ble 2 3&&true)=true by decide)]
   show (_:Int)=((7*_+(_+90+_)%7:Nat):Int)
   omega
  |4,_=>
   rw[show (((4:Nat):Int)+1)=5 from rfl,aF7,if_neg (fun z=>absurd z.1 (by decide)),if_neg (by decide),if_pos (show (Nat.ble 2 4&&true)=true by decide)]
   show (_:Int)=((7*_+(_+120+_)%7:Nat):Int)
   omega
  |5,_=>
   rw[show (((5:Nat):Int)+1)=6 from rfl,aKY,if_neg (fun z=>absurd z.1 (by decide)),if_neg (by decide),if_pos (show (Nat.ble 2 5&&true)=true by decide)]
   show (_:Int)=((7*_+(_+151+_)%7:Nat):Int)
   omega
  |6,_=>
   rw[show (((6:Nat):Int)+1)=7 from rfl,aHM,if_neg (fun z=>absurd z.1 (by decide)),if_neg (by decide),if_pos (show (Nat.ble 2 6&&true)=true by decide)]
   show (_:Int)=((7*_+(_+181+_)%7:Nat):Int)
   omega
  |7,_=>
   rw[show (((7:Nat):Int)+1)=8 from rfl,aF9,if_neg (fun z=>absurd z.1 (by decide)),if_neg (by decide),if_pos (show (Nat.ble 2 7&&true)=true by decide)]
   show (_:Int)=((7*_+(_+212+_)%7:Nat):Int)
   omega
  |8,_=>
   rw[show (((8:Nat):Int)+1)=9 from rfl,aLA,if_neg (fun z=>absurd z.1 (by decide)),if_neg (by decide),if_pos (show (Nat.ble 2 8&&true)=true by decide)]
   show (_:Int)=((7*_+(_+243+_)%7:Nat):Int)
   omega
  |9,_=>
   rw[show (((9:Nat):Int)+1)=10 from rfl,aJT,if_neg (fun z=>absurd z.1 (by decide)),if_neg (by decide),if_pos (show (Nat.ble 2 9&&true)=true by decide)]
   show (_:Int)=((7*_+(_+273+_)%7:Nat):Int)
   omega
  |10,_=>
   rw[show (((10:Nat):Int)+1)=11 from rfl,aA2,if_neg (fun z=>absurd z.1 (by decide)),if_neg (by decide),if_pos (show (Nat.ble 2 10&&true)=true by decide)]
   show (_:Int)=((7*_+(_+304+_)%7:Nat):Int)
   omega
  |11,_=>
   rw[show (((11:Nat):Int)+1)=12 from rfl,aA9,if_neg (fun z=>absurd z.1 (by decide)),if_neg (by decide),if_pos (show (Nat.ble 2 11&&true)=true by decide)]
   show (_:Int)=((7*_+(_+334+_)%7:Nat):Int)
   omega
  |n+12,h=>exact absurd h (by omega)
 ·rw[if_neg L] at hc
  have hL:aaP y=0:=by unfold aaP;rw[if_neg L]
  have hb:Nat.ble 7 c=false:=by
   cases z:Nat.ble 7 c
   ·rfl
   ·exact absurd (dH z) (by omega)
  have hd:c%7=((db y+6)%7).toNat:=by omega
  rw[hb,hd,Bool.and_false,Bool.and_false,if_neg a9,if_neg a9,if_neg (fun z=>L z.2)]
  match m,hm with
  |0,_=>
   rw[show (((0:Nat):Int)+1)=1 from rfl,aJ7]
   show (_:Int)=((7*_+(_+0+_)%7:Nat):Int)
   omega
  |1,_=>
   rw[show (((1:Nat):Int)+1)=2 from rfl,aFV]
   show (_:Int)=((7*_+(_+31+_)%7:Nat):Int)
   omega
  |2,_=>
   rw[show (((2:Nat):Int)+1)=3 from rfl,aOJ]
   show (_:Int)=((7*_+(_+59+_)%7:Nat):Int)
   omega
  |3,_=>
   rw[show (((3:Nat):Int)+1)=4 from rfl,aIG]
   show (_:Int)=((7*_+(_+90+_)%7:Nat):Int)
   omega
  |4,_=>
   rw[show (((4:Nat):Int)+1)=5 from rfl,aF7]
   show (_:Int)=((7*_+(_+120+_)%7:Nat):Int)
   omega
  |5,_=>
   rw[show (((5:Nat):Int)+1)=6 from rfl,aKY]
   show (_:Int)=((7*_+(_+151+_)%7:Nat):Int)
   omega
  |6,_=>
   rw[show (((6:Nat):Int)+1)=7 from rfl,aHM]
   show (_:Int)=((7*_+(_+181+_)%7:Nat):Int)
   omega
  |7,_=>
   rw[show (((7:Nat):Int)+1)=8 from rfl,aF9]
   show (_:Int)=((7*_+(_+212+_)%7:Nat):Int)
   omega
  |8,_=>
   rw[show (((8:Nat):Int)+1)=9 from rfl,aLA]
   show (_:Int)=((7*_+(_+243+_)%7:Nat):Int)
   omega
  |9,_=>
   rw[show (((9:Nat):Int)+1)=10 from rfl,aJT]
   show (_:Int)=((7*_+(_+273+_)%7:Nat):Int)
   omega
  |10,_=>
   rw[show (((10:Nat):Int)+1)=11 from rfl,aA2]
   show (_:Int)=((7*_+(_+304+_)%7:Nat):Int)
   omega
  |11,_=>
   rw[show (((11:Nat):Int)+1)=12 from rfl,aA9]
   show (_:Int)=((7*_+(_+334+_)%7:Nat):Int)
   omega
  |n+12,h=>exact absurd h (by omega)
noncomputable def ab5(k:Int):Int:=if 83<k then 2 else k / 7+1
noncomputable def bnd(k:Int):Int:=if 83<k then 40 else 12
theorem arE{k:Int}(h0:0<=k)(h1:k<=90):1<=ab5 k/\ab5 k<=12:=by unfold ab5;split<;>omega
theorem avP{k:Int}(h0:0<=k)(h1:k<=90)(y:Int):∃j:Nat,(j:Int)<bnd k/\kindOf (y+j) (ab5 k)=k/\∀i:Nat,i<j->kindOf (y+i) (ab5 k)≠k:=by
 obtain⟨r0,_⟩:=atF y
 have hk:k.toNat<91:=by omega
 obtain⟨j,hj,hit⟩:=aEF hk r0
 have em:ab5 k=(aq1 k.toNat:Nat)+1:=by
  unfold ab5 aq1
  by_cases c:83<k
  ·rw[if_pos c,if_pos (Nat.ble_eq_true_of_le (by omega))];rfl
  ·rw[if_neg c,if_neg (fun z=>c (by have:=dH z;omega))];omega
 have hm:aq1 k.toNat<12:=by
  have:=arE h0 h1
  omega
 have eb:bnd k=(ak5 k.toNat:Nat):=by
  unfold bnd ak5
  by_cases c:83<k
  ·rw[if_pos c,if_pos (Nat.ble_eq_true_of_le (by omega))];rfl
  ·rw[if_neg c,if_neg (fun z=>c (by have:=dH z;omega))];rfl
 have cn:∀a:Nat,afJ a=afJ (a%400):=fun a=>by
  unfold afJ
  have e4:a%400%4=a%4:=by omega
  have e5:a%400%100=a%100:=by omega
  have e6:a%400%400=a%400:=by omega
  rw[e4,e5,e6]
  have:(365*a+(a+3) / 4-(a+99) / 100+(a+399) / 400+6)%7=(365*(a%400)+(a%400+3) / 4-(a%400+99) / 100+(a%400+399) / 400+6)%7:=by
   have h1:(a+3) / 4=100*(a / 400)+(a%400+3) / 4:=by omega
   have h2:(a+99) / 100=4*(a / 400)+(a%400+99) / 100:=by omega
   have h3:(a+399) / 400=a / 400+(a%400+399) / 400:=by omega
   have h4:a=400*(a / 400)+a%400:=by omega
   have hq:(a%400+99) / 100<=365*(a%400)+(a%400+3) / 4:=by omega
   rw[h1,h2,h3]
   generalize (a%400+3) / 4=q1 at hq ⊢
   generalize (a%400+99) / 100=q2 at hq ⊢
   generalize (a%400+399) / 400=q3
   omega
  rw[this]
 have ex:∃j:Nat,(j:Int)<bnd k/\kindOf (y+j) (ab5 k)=k:=by
  refine⟨j,by omega,?_⟩
  rw[em,av9 _ hm]
  have e:((y+(j:Int))%400).toNat=((y%400).toNat+j)%400:=by omega
  rw[e,←cn,hit]
  omega
 clear hit hj
 have key:∀n:Nat,(∃j:Nat,j<n/\kindOf (y+j) (ab5 k)=k)->∃j:Nat,j<n/\kindOf (y+j) (ab5 k)=k/\∀i:Nat,i<j->kindOf (y+i) (ab5 k)≠k:=by
  intro n
  induction n with
  |zero=>intro ⟨j,hj,_⟩;omega
  |succ n ih=>
   intro ⟨j,hj,e⟩
   by_cases c:∃j:Nat,j<n/\kindOf (y+j) (ab5 k)=k
   ·obtain⟨i,hi,r⟩:=ih c
    exact⟨i,by omega,r⟩
   ·have hjn:j=n:=by
     rcases Nat.lt_or_ge j n with z | z
     ·exact absurd ⟨j,z,e⟩ c
     ·omega
    subst hjn
    exact⟨j,hj,e,fun i hi z=>c ⟨i,hi,z⟩⟩
 obtain⟨j,hj,e⟩:=ex
 obtain⟨i,hi,r⟩:=key (j+1) ⟨j,by omega,e⟩
 exact⟨i,by omega,r⟩
noncomputable def ag2(M:Int):Int:=db (M / 12)+ahead (M / 12) (M%12+1)
noncomputable def alZ(M:Int):Int:=aaD (M / 12) (M%12+1)
noncomputable def acS(M:Int):Int:=kindOf (M / 12) (M%12+1)
theorem ae0(M:Int):ag2 (M+1)=ag2 M+alZ M:=by
 unfold ag2 alZ
 by_cases c:M%12=11
 ·rw[show (M+1) / 12=M / 12+1 by omega,show (M+1)%12=0 by omega,c]
  have a1:=ac7 (y:=M / 12) (m:=12) (by decide)
  have a2:=akT (M / 12)
  have a3:=ajT (M / 12)
  have a4:ahead (M / 12+1) (0+1)=0:=rfl
  have e:(12:Int)+1=13:=rfl
  have e':(11:Int)+1=12:=rfl
  rw[e] at a1
  rw[a4,e']
  omega
 ·rw[show (M+1) / 12=M / 12 by omega,show (M+1)%12=M%12+1 by omega,ac7 (by omega)]
  omega
theorem atL{k:Int}(h0:0<=k)(h1:k<=90)(y:Int):∃N:Int,12*y<=N/\N<12*y+480/\acS N=k:=by
 obtain⟨j,hj,hk,_⟩:=avP h0 h1 y
 have hm:=arE h0 h1
 have hb:bnd k<=40:=by unfold bnd;split<;>decide
 refine⟨12*(y+j)+ab5 k-1,by omega,by omega,?_⟩
 unfold acS
 rw[show (12*(y+(j:Int))+ab5 k-1) / 12=y+j by omega,show (12*(y+(j:Int))+ab5 k-1)%12+1=ab5 k by omega]
 exact hk
theorem atA{k:Int}(h0:0<=k)(h1:k<=90)(M:Int):∃N:Int,M+1<=N/\N<=M+491/\acS N=k:=by
 obtain⟨N,a,b,c⟩:=atL h0 h1 (M / 12+1)
 exact⟨N,by omega,by omega,c⟩
theorem av0{k:Int}(h0:0<=k)(h1:k<=90)(M:Int):∃N:Int,M-491<=N/\N<=M-1/\acS N=k:=by
 obtain⟨N,a,b,c⟩:=atL h0 h1 (M / 12-40)
 exact⟨N,by omega,by omega,c⟩
noncomputable def ah2(t:Int):Prop:=0<=t/\t<2^1440
noncomputable def mnN(g:Nat->Int):Nat->Int
 |0=>0
 |n+1=>Builtin.bitOr (mnN g n) (g n*2^(1440*n))
theorem arN{g:Nat->Int}:∀{n:Nat},(∀j,j<n->ah2 (g j))->0<=mnN g n
 |0,_=>aX 0
 |n+1,h=>alC (arN fun j hj=>h j (by omega)) (Int.mul_nonneg (h n (by omega)).1 (bJ (aaO _)))
theorem ayJ{g:Nat->Int}(i:Nat):∀{n:Nat},(∀j,j<n->ah2 (g j))->tb (mnN g n) i=(decide (i / 1440<n)&&tb (g (i / 1440)) (i%1440))
 |0,_=>by
  show tb 0 i=_
  rw[aa4,dW (Nat.not_lt_zero _),Bool.false_and]
 |n+1,h=>by
  have h0:∀j,j<n->ah2 (g j):=fun j hj=>h j (by omega)
  have hn:=h n (by omega)
  show tb (Builtin.bitOr (mnN g n) (g n*2^(1440*n))) i=_
  rw[apH (arN h0) (Int.mul_nonneg hn.1 (bJ (aaO _))),ayJ i h0,an6 hn.1]
  rcases Nat.lt_trichotomy (i / 1440) n with c | c | c
  ·rw[dR c,dR (show i / 1440<n+1 by omega),dW (show ¬1440*n<=i by omega),Bool.false_and,Bool.or_false]
  ·rw[dW (show ¬i / 1440<n by omega),dR (show i / 1440<n+1 by omega),dR (show 1440*n<=i by omega),c,show i-1440*n=i%1440 by omega]
   rfl
  ·rw[dW (show ¬i / 1440<n by omega),dW (show ¬i / 1440<n+1 by omega),acP hn.2 (show 1440<=i-1440*n by omega),Bool.and_false]
   rfl
structure Cal(S W:Int->Int):Prop where
 up:∀M,S M<S (M+1)
 nn:∀M,0<=W M
 bit:∀M i,tb (W M) i=true->(i:Int)<S (M+1)-S M
noncomputable def Ev(S W:Int->Int)(t:Int):Prop:=∃M:Int,S M<=t/\t<S (M+1)/\tb (W M) (t-S M).toNat=true
variable{S W:Int->Int}
theorem Cal.le(h:Cal S W)(M:Int):∀n:Nat,S M<=S (M+n)
 |0=>by simp
 |n+1=>by
  have:=h.le M n
  have:=h.up (M+n)
  rw[show M+((n+1:Nat):Int)=M+n+1 by omega]
  omega
theorem Cal.mono(h:Cal S W){M N:Int}(hl:M<=N):S M<=S N:=by
 have:=h.le M (N-M).toNat
 rw[bF (by omega),show M+(N-M)=N by omega] at this
 exact this
theorem Cal.uniq(h:Cal S W){M N t:Int}(h1:S M<=t)(h2:t<S (M+1))(h3:S N<=t)(h4:t<S (N+1)):M=N:=by
 rcases dG M N with c | c | c
 ·have:=h.mono (show M+1<=N by omega);omega
 ·exact c
 ·have:=h.mono (show N+1<=M by omega);omega
theorem avY(h:Cal S W){M mo:Int}{l:Nat}(none:∀t,mo<=t->t<S M->¬Ev S W t)(hl:tb (W M / 2^(max (mo-S M) 0).toNat) l=true)(hj:∀j,j<l->tb (W M / 2^(max (mo-S M) 0).toNat) j=false):
  Ev S W (S M+max (mo-S M) 0+l)/\mo<=S M+max (mo-S M) 0+l/\∀t,mo<=t->t<S M+max (mo-S M) 0+l->¬Ev S W t:=by
 generalize e:max (mo-S M) 0=p at hl hj ⊢
 have hp:0<=p/\mo-S M<=p/\(p=0∨p=mo-S M):=by omega
 rw[adG (h.nn M)] at hl
 have hb:=h.bit M _ hl
 refine⟨⟨M,by omega,by omega,?_⟩,by omega,?_⟩
 ·rw[show (S M+p+(l:Int)-S M).toNat=p.toNat+l by omega]
  exact hl
 ·intro t h1 h2 hE
  rcases cL t (S M) with c | c
  ·exact none t h1 c hE
  ·obtain⟨N,a1,a2,a3⟩:=hE
   obtain rfl:=h.uniq c (by omega) a1 a2
   have:=hj (t-S M-p).toNat (by omega)
   rw[adG (h.nn M),show p.toNat+(t-S M-p).toNat=(t-S M).toNat by omega,a3] at this
   cases this
theorem arR(h:Cal S W){M mo:Int}(none:∀t,mo<=t->t<S M->¬Ev S W t)(hz:W M / 2^(max (mo-S M) 0).toNat=0):∀t,mo<=t->t<S (M+1)->¬Ev S W t:=by
 intro t h1 h2 hE
 rcases cL t (S M) with c | c
 ·exact none t h1 c hE
 ·obtain⟨N,a1,a2,a3⟩:=hE
  obtain rfl:=h.uniq c h2 a1 a2
  generalize e:max (mo-S M) 0=p at hz
  have hp:0<=p/\mo-S M<=p/\(p=0∨p=mo-S M):=by omega
  have z:=adG (h.nn M) p.toNat (t-S M-p).toNat
  rw[hz,aa4,show p.toNat+(t-S M-p).toNat=(t-S M).toNat by omega,a3] at z
  cases z
theorem ayS(h:Cal S W){M mo c:Int}{l:Nat}(hc:S (M+1)-S M<=c)(hm:S M<=mo)(none:∀t,S (M+1)<=t->t<=mo->¬Ev S W t)(hl:tb (Builtin.bitAnd (W M) (2*2^(min (mo-S M) c).toNat-1)) l=true)(hj:∀j,l<j->tb (Builtin.bitAnd (W M) (2*2^(min (mo-S M) c).toNat-1)) j=false):
  Ev S W (S M+l)/\S M+l<=mo/\∀t,S M+l<t->t<=mo->¬Ev S W t:=by
 generalize e:min (mo-S M) c=p at hl hj
 have up:=h.up M
 have hp:0<=p/\p<=mo-S M/\p<=c/\(p=c∨p=mo-S M):=by omega
 have e2:(2:Int)*2^p.toNat-1=2^(p.toNat+1)-1:=by rw[Int.pow_succ,Int.mul_comm]
 have bits:∀j,tb (Builtin.bitAnd (W M) (2*2^p.toNat-1)) j=(tb (W M) j&&decide (j<p.toNat+1)):=fun j=>by
  rw[e2,afZ (h.nn M) (by have:=aaO (p.toNat+1);omega),ajM]
 rw[bits,bH,dU] at hl
 have hb:=h.bit M _ hl.1
 refine⟨⟨M,by omega,by omega,?_⟩,by omega,?_⟩
 ·rw[show (S M+(l:Int)-S M).toNat=l by omega]
  exact hl.1
 ·intro t h1 h2 hE
  rcases cL t (S (M+1)) with d | d
  ·obtain⟨N,a1,a2,a3⟩:=hE
   obtain rfl:=h.uniq (show S M<=t by omega) d a1 a2
   have z:=hj (t-S M).toNat (by omega)
   rw[bits,a3,dR (show (t-S M).toNat<p.toNat+1 by omega)] at z
   cases z
  ·exact none t d h2 hE
theorem avN(h:Cal S W){M mo c:Int}(hc:S (M+1)-S M<=c)(hm:S M<=mo)(none:∀t,S (M+1)<=t->t<=mo->¬Ev S W t)(hz:Builtin.bitAnd (W M) (2*2^(min (mo-S M) c).toNat-1)=0):∀t,S M<=t->t<=mo->¬Ev S W t:=by
 intro t h1 h2 hE
 rcases cL t (S (M+1)) with d | d
 ·obtain⟨N,a1,a2,a3⟩:=hE
  obtain rfl:=h.uniq h1 d a1 a2
  generalize e:min (mo-S M) c=p at hz
  have hp:0<=p/\p<=mo-S M/\p<=c/\(p=c∨p=mo-S M):=by omega
  have e2:(2:Int)*2^p.toNat-1=2^(p.toNat+1)-1:=by rw[Int.pow_succ,Int.mul_comm]
  have z:tb (Builtin.bitAnd (W M) (2*2^p.toNat-1)) (t-S M).toNat=true:=by
   rw[e2,afZ (h.nn M) (by have:=aaO (p.toNat+1);omega),ajM,a3,dR (show (t-S M).toNat<p.toNat+1 by omega)]
   rfl
  rw[hz,aa4] at z
  cases z
 ·exact none t d h2 hE
theorem ah7{A:Int->Prop}(hA:∀M,A M->W M=0)(hk:∀M,∃N,A N/\W M=W N):∀t,¬Ev S W t:=by
 rintro t ⟨M,_,_,h⟩
 obtain⟨N,a,e⟩:=hk M
 rw[e,hA N a,aa4] at h
 cases h
theorem ay7{c d m:Int}(hc:0<=c)(hd:0<=d)(hm:0<=m)(h0:∀i,(tb c i&&tb d i)=false)(h1:∀i,(tb c i||tb d i)=tb m i):c+d=m:=by
 have ea:Builtin.bitAnd c d=0:=acE (aj0 hc hd) (aX 0) fun i=>by rw[afZ hc hd,h0,aa4]
 have eo:Builtin.bitOr c d=m:=acE (alC hc hd) hm fun i=>by rw[apH hc hd,h1]
 rw[←eo,bitOr_and,ea]
 omega
theorem atQ{m:Int}(h:0<m):∃k,tb m k=true/\∀j,j<k->tb m j=false:=by
 have hex:∃i,tb m i=true:=by
  cases Classical.em (∃i,tb m i=true) with
  |inl z=>exact z
  |inr z=>
   have:m=0:=acE (by omega) (aX 0) fun i=>by
    rw[aa4]
    cases e:tb m i with
    |false=>rfl
    |true=>exact absurd ⟨i,e⟩ z
   omega
 obtain⟨i,hi⟩:=hex
 have key:∀n i,i<=n->tb m i=true->∃k,tb m k=true/\∀j,j<k->tb m j=false:=by
  intro n
  induction n with
  |zero=>
   intro i hi h
   obtain rfl:i=0:=by omega
   exact⟨0,h,fun j hj=>absurd hj (Nat.not_lt_zero _)⟩
  |succ n ih=>
   intro i hi h
   cases Classical.em (∃j,j<i/\tb m j=true) with
   |inl z=>
    obtain⟨j,hj,hb⟩:=z
    exact ih j (by omega) hb
   |inr z=>
    exact⟨i,h,fun j hj=>by
     cases e:tb m j with
     |false=>rfl
     |true=>exact absurd ⟨j,hj,e⟩ z⟩
 exact key i i (aS _) hi
theorem azR{m:Int}(h:0<m){k:Nat}(hk:tb m k=true)(hj:∀j,j<k->tb m j=false):Builtin.bitAnd m (-m)=2^k:=by
 have hm1:0<=m-1:=by omega
 have e:Builtin.bitAnd m (-m)=m-Builtin.bitAnd m (m-1):=by
  rw[bitAnd_pn (by omega) (by omega),bitAnd_pp (by omega) hm1]
  have:Builtin.bitNot (-m)=m-1:=by unfold Builtin.bitNot;omega
  rw[this]
 obtain⟨n,rfl⟩:=cG (bJ h)
 have hkn:n.testBit k=true:=hk
 have hjn:∀j,j<k->n.testBit j=false:=hj
 have em:n%2^k=0:=Nat.eq_of_testBit_eq fun i=>by
  rw[Nat.testBit_mod_two_pow,Nat.zero_testBit]
  by_cases c:i<k
  ·rw[dR c,hjn i c];rfl
  ·rw[dW c];rfl
 have hd:n=2^k*(n / 2^k):=by
  have:=Nat.div_add_mod n (2^k)
  omega
 have ho:(n / 2^k).testBit 0=true:=by rw[Nat.testBit_div_two_pow,Nat.zero_add];exact hkn
 have ho:n / 2^k%2=1:=by
  rw[Nat.testBit_zero] at ho
  exact dQ ho
 obtain⟨q,hq⟩:∃q,n / 2^k=2*q+1:=⟨n / 2^k / 2,by omega⟩
 have hp:=Nat.two_pow_pos k
 have e1:n=2^(k+1)*q+2^k:=by rw[hd,hq,Nat.mul_add,Nat.mul_one,←Nat.mul_assoc,Nat.pow_succ]
 have e2:n-1=2^(k+1)*q+(2^k-1):=by omega
 have hl:2^k-1<2^(k+1):=by rw[Nat.pow_succ];omega
 have hl2:2^k<2^(k+1):=by rw[Nat.pow_succ];omega
 have tb1:∀i,tb ((n:Int)-1) i=(if i<k+1 then (2^k-1).testBit i else q.testBit (i-(k+1))):=fun i=>by
  unfold tb
  have:((n:Int)-1).toNat=n-1:=by omega
  rw[this,e2,Nat.testBit_two_pow_mul_add _ hl]
 have tbn:∀i,tb (n:Int) i=(if i<k+1 then (2^k).testBit i else q.testBit (i-(k+1))):=fun i=>by
  unfold tb
  rw[bQ,e1,Nat.testBit_two_pow_mul_add _ hl2]
 have hz:∀i,(tb (2^k) i&&tb (Builtin.bitAnd (n:Int) ((n:Int)-1)) i)=false:=fun i=>by
  rw[arT,afZ (by omega) hm1,tb1]
  by_cases c:k=i
  ·subst c
   rw[if_pos (by omega),Nat.testBit_two_pow_sub_one]
   simp
  ·rw[dW c];rfl
 have hs:=ay7 (c:=2^k) (d:=Builtin.bitAnd (n:Int) ((n:Int)-1)) (m:=(n:Int)) (bJ (aaO k)) (aj0 (by omega) hm1) (by omega) hz (fun i=>by
  rw[arT,afZ (by omega) hm1,tb1,tbn]
  by_cases c:i<k+1
  ·rw[if_pos c,if_pos c,Nat.testBit_two_pow_sub_one,Nat.testBit_two_pow]
   by_cases d:k=i
   ·subst d;simp
   ·rw[dW d];simp
  ·rw[if_neg c,if_neg c,dW (by omega)]
   cases q.testBit (i-(k+1))<;>rfl)
 omega
theorem axQ(k:Nat):Builtin.Int.intBits (2^k)=k+1:=by
 unfold Builtin.Int.intBits
 have h0:((2:Int)^k==0)=false:=beq_eq_false_iff_ne.mpr (Int.ne_of_gt (aaO k))
 rw[h0]
 have:((2:Int)^k).natAbs=2^k:=by rw[←aaY,Int.natAbs_natCast]
 rw[this,Nat.log2_two_pow]
 rfl
noncomputable abbrev TrX:=Int×Int×List Nat
noncomputable def TpX(H:Hp)(v:V)(z:TrX):Prop:=∃t:Addr,v=.ref t/\H t=some (.tup [.int z.1,.int z.2.1,.str (Tx z.2.2)])
noncomputable def akB(sts:List TrX)(a b:Int)(tm:List Nat):List TrX:=match sts.getLast? with
 |some s=>if s.2.2=tm then sts.dropLast++[(s.1,b,tm)] else sts++[(a,b,tm)]
 |none=>[(a,b,tm)]
theorem aj1{H H':Hp}(h:∀b xs,H b=some (.tup xs)->H' b=some (.tup xs)){v:V}{s:TrX}(z:TpX H v s):TpX H' v s:=by
 obtain⟨t,e,ht⟩:=z
 exact⟨t,e,h _ _ ht⟩
theorem ahW(sts:List TrX)(s:TrX)(a b:Int)(tm:List Nat):akB (sts++[s]) a b tm=if s.2.2=tm then sts++[(s.1,b,tm)] else sts++[s]++[(a,b,tm)]:=by
 unfold akB
 simp
theorem ax4{α β:Type}{F:α->β->Prop}:∀{l:List α} {v:α} {r:List β},Paired F (l++[v]) r->∃r0 s,r=r0++[s]/\Paired F l r0/\F v s
 |[],v,_,.cons h .nil=>⟨[],_,rfl,.nil,h⟩
 |x::l,v,_,.cons h t=>by
  obtain⟨r0,s,rfl,h1,h2⟩:=ax4 t
  exact⟨_::r0,s,rfl,.cons h h1,h2⟩
theorem aAM{α:Type}{l:List α}(h:l≠[]):∃l0 v,l=l0++[v]:=⟨l.dropLast,l.getLast h,(List.dropLast_concat_getLast h).symm⟩
theorem auO{l:List V}{v:V}:atI (l++[v]) (-1)=some v:=axW l v
theorem aAF{l:List V}{v:V}:ixN (l++[v]).length (-1)=some l.length:=by
 unfold ixN
 simp
 omega
theorem ax5{l:List V}{v u:V}:(l++[v]).set l.length u=l++[u]:=by simp
noncomputable def dIn(m3:Int)(kd kw:Option (List Mk))(k:Int):Int:=if tb m3 (mnA k).toNat=true then abK kd kw (lnA k) (k%7) else 0
noncomputable def aaU(tm m3:Int)(kd kw:Option (List Mk))(k:Int)(j:Nat):Int:=if tb (dIn m3 kd kw k) (j+1)=true then tm else 0
noncomputable def acL(f:Int->Nat->Int)(k:Int):List Int:=(List.range (lnA k).toNat).map (f k)
theorem aBL{c:Cs}{H:Hp}{v:V}{ko:Option (List Mk)}(h:DV c H v ko):∀ks,ko=some ks->∀k∈ks,k.ok:=fun ks e=>by
 subst e
 obtain⟨_,_,_,_,_,z⟩:=h
 exact z
theorem aDY{c:Cs}{H:Hp}{dv wv:V}{m3 k:Int}{kd kw:Option (List Mk)}(hd:DV c H dv kd)(hw:DV c H wv kw)(h0:0<=k)(h1:k<=90):0<=dIn m3 kd kw k:=by
 have ml:=(agV h0 h1).2
 unfold dIn
 split
 ·unfold abK
  split
  ·have:(0:Int)<2^(lnA k).toNat:=aaO _
   omega
  ·exact ajY (b:=false) ml (aBL hw) (ajY (b:=false) ml (aBL hd) (aX 0))
 ·exact aX 0
theorem aDX{h m:Int}(h0:0<=h)(h1:h<2^24)(hm:0<=m){r:Nat}(a:tb h (r / 60)=true)(b:tb m (r%60)=true):tb (tmF h m) r=true:=by
 unfold tmF
 rw[adC (fun z hz=>by
  obtain⟨y,_,rfl⟩:=bS.mp hz
  exact Int.mul_nonneg hm (bJ (aaO _))),List.any_eq_true]
 have hlt:r / 60<24:=by
  rcases Nat.lt_or_ge (r / 60) 24 with c | c
  ·exact c
  ·rw[acP h1 c] at a
   cases a
 refine⟨_,bS.mpr ⟨((r / 60:Nat):Int),?_,rfl⟩,?_⟩
 ·rw[ajK h0 h1,flt_mem]
  exact⟨r / 60,hlt,a,by omega⟩
 ·rw[show (60*((r / 60:Nat):Int)).toNat=60*(r / 60) by omega,an6 hm,dR (show 60*(r / 60)<=r by omega),show r-60*(r / 60)=r%60 by omega,b]
  rfl
theorem aGZ{h m:Int}(h0:0<=h)(h1:h<2^24)(hm:0<=m)(hm2:m<2^60):ah2 (tmF h m):=by
 unfold tmF
 rw[ajK h0 h1]
 obtain⟨e,a,b⟩:=auJ (h:=h) hm hm2 24
 rw[e]
 exact⟨a,b⟩
theorem asR(g:Int->Nat->Int)(k:Int):(acL g k).length=(lnA k).toNat:=by unfold acL;rw[aU,dE]
theorem aBT{g:Int->Nat->Int}{k:Int}{j:Nat}(h:j<(lnA k).toNat):(acL g k).getD j 0=g k j:=by
 unfold acL
 rw[List.getD_eq_getElem?_getD,bE,List.getElem?_range h]
 rfl
noncomputable def wK(g:Int->Nat->Int)(k:Int):Int:=mnN (fun j=>(acL g k).getD j 0) (acL g k).length
noncomputable def SM(M:Int):Int:=1440*ag2 M
noncomputable def WM(g:Int->Nat->Int)(M:Int):Int:=wK g (acS M)
noncomputable def GOk(g:Int->Nat->Int):Prop:=∀k j,ah2 (g k j)
theorem aH0{g:Int->Nat->Int}(hg:GOk g){k:Int}:∀t∈acL g k,ah2 t:=fun t ht=>by
 obtain⟨j,_,rfl⟩:=bS.mp ht
 exact hg k j
theorem awL{g:Int->Nat->Int}(hg:GOk g){k:Int}(j:Nat)(hj:j<(acL g k).length):ah2 ((acL g k).getD j 0):=by
 rw[aBT (by rw[asR] at hj;exact hj)]
 exact hg k j
theorem ac1(M:Int):0<=acS M/\acS M<=90:=ajS (by omega) (by omega)
theorem azG(M:Int):lnA (acS M)=alZ M:=(ab9 (y:=M / 12) (m:=M%12+1) (by omega) (by omega)).2
theorem ajQ(M:Int):28<=alZ M/\alZ M<=31:=amR (by omega) (by omega)
theorem aw2{g:Int->Nat->Int}(hg:GOk g)(k:Int)(i:Nat):tb (wK g k) i=(decide (i / 1440<(lnA k).toNat)&&tb (g k (i / 1440)) (i%1440)):=by
 unfold wK
 rw[ayJ i (fun j hj=>awL hg j hj),asR]
 by_cases c:i / 1440<(lnA k).toNat
 ·show (_&&tb ((acL g k).getD (i / 1440) 0) _)=_
  rw[aBT c]
 ·rw[dW c]
  rfl
theorem asU{g:Int->Nat->Int}(hg:GOk g):Cal SM (WM g) where
 up M:=by
  unfold SM
  have:=ae0 M
  have:=ajQ M
  omega
 nn M:=arN fun j hj=>awL hg j hj
 bit M i h:=by
  unfold WM at h
  rw[aw2 hg,bH,dU,azG] at h
  unfold SM
  have:=ae0 M
  omega
noncomputable abbrev EvG(g:Int->Nat->Int)(t:Int):Prop:=Ev SM (WM g) t
theorem aI4{m0 m1 m3 t y m k:Int}{kd kw:Option (List Mk)}(hn:0<=m0/\0<=m1/\0<=m3)(hb:m1<2^24/\m0<2^60)(hg:GOk (aaU (tmF m1 m0) m3 kd kw))(ok:OkD y m k)(e:adI y m k=t / 1440)(h:shK m0 m1 m3 kd kw (t / 1440) (t%1440) y m k=.non):EvG (aaU (tmF m1 m0) m3 kd kw) t:=by
 unfold shK at h
 split at h
 ·cases h
 split at h
 ·cases h
 split at h
 ·cases h
 split at h
 ·cases h
 rename_i c1 c2 c3 c4
 have c1:=ab3 c1
 have c2:=ab3 c2
 have c3:=ab3 c3
 have c4:=ab3 c4
 have hm:=ok.1
 have hk:=ok.2
 have f7:=ajO ok e
 have mk:=ab9 (y:=y) ok.1.1 ok.1.2
 have e1:(12*y+m-1) / 12=y:=by omega
 have e2:(12*y+m-1)%12+1=m:=by omega
 have ek:acS (12*y+m-1)=kindOf y m:=by unfold acS;rw[e1,e2]
 have ed:ag2 (12*y+m-1)=db y+ahead y m:=by unfold ag2;rw[e1,e2]
 have el:alZ (12*y+m-1)=aaD y m:=by unfold alZ;rw[e1,e2]
 have up:=ae0 (12*y+m-1)
 have e':db y+ahead y m+k-1=t / 1440:=e
 refine⟨12*y+m-1,by unfold SM;omega,by unfold SM;omega,?_⟩
 unfold WM
 have ei:(t-SM (12*y+m-1)).toNat=1440*(k-1).toNat+(t%1440).toNat:=by unfold SM;omega
 rw[aw2 hg,ei,show (1440*(k-1).toNat+(t%1440).toNat) / 1440=(k-1).toNat by omega,show (1440*(k-1).toNat+(t%1440).toNat)%1440=(t%1440).toNat by omega,ek,mk.2,dR (by omega)]
 have eg:aaU (tmF m1 m0) m3 kd kw (kindOf y m) (k-1).toNat=tmF m1 m0:=by
  unfold aaU dIn
  rw[mk.1,mk.2,if_pos c1,f7,show (k-1).toNat+1=k.toNat by omega,if_pos c2]
 rw[eg,aDX hn.2.1 hb.1 hn.1 (by rw[show (t%1440).toNat / 60=(t%1440 / 60).toNat by omega];exact c3) (by rw[show (t%1440).toNat%60=(t%1440%60).toNat by omega];exact c4)]
 rfl
theorem aCD{h m m3:Int}{kd kw:Option (List Mk)}(h0:0<=h)(h1:h<2^24)(hm:0<=m)(hm2:m<2^60):GOk (aaU (tmF h m) m3 kd kw):=fun k j=>by
 unfold aaU
 split
 ·exact aGZ h0 h1 hm hm2
 ·exact⟨aX 0,aaO _⟩
theorem as2{g:Int->Nat->Int}{M mo:Int}(hc:Cal SM (WM g))(hM:SM M<=mo)(hm:mo<SM (M+1))(h:∀t,mo<=t->t<SM (M+492)->¬EvG g t):∀t,¬EvG g t:=by
 refine ah7 (A:=fun N=>M+1<=N/\N<=M+491) (fun N hN=>?_) (fun N=>?_)
 ·rcases cL 0 (WM g N) with c | c
  ·obtain⟨l,hl,_⟩:=atQ c
   exfalso
   have hb:=hc.bit N l hl
   have h1:=hc.mono (show M+1<=N by omega)
   have h2:=hc.mono (show N+1<=M+492 by omega)
   exact h (SM N+l) (by omega) (by omega) ⟨N,by omega,by omega,by rw[show (SM N+(l:Int)-SM N).toNat=l by omega];exact hl⟩
  ·have:=hc.nn N
   omega
 ·obtain⟨N',a,b,c⟩:=atA (ac1 N).1 (ac1 N).2 M
  exact⟨N',⟨a,b⟩,by unfold WM;rw[c]⟩
theorem auZ{g:Int->Nat->Int}{M mo:Int}(hc:Cal SM (WM g))(hM:SM M<=mo)(hm:mo<SM (M+1))(h:∀t,SM (M-491)<=t->t<=mo->¬EvG g t):∀t,¬EvG g t:=by
 refine ah7 (A:=fun N=>M-491<=N/\N<=M-1) (fun N hN=>?_) (fun N=>?_)
 ·rcases cL 0 (WM g N) with c | c
  ·obtain⟨l,hl,_⟩:=atQ c
   exfalso
   have hb:=hc.bit N l hl
   have h1:=hc.mono (show M-491<=N by omega)
   have h2:=hc.mono (show N+1<=M by omega)
   exact h (SM N+l) (by omega) (by omega) ⟨N,by omega,by omega,by rw[show (SM N+(l:Int)-SM N).toNat=l by omega];exact hl⟩
  ·have:=hc.nn N
   omega
 ·obtain⟨N',a,b,c⟩:=av0 (ac1 N).1 (ac1 N).2 M
  exact⟨N',⟨a,b⟩,by unfold WM;rw[c]⟩
theorem an3(M:Int):∀n:Nat,SM (M+n)<=SM M+44640*n
 |0=>by simp
 |n+1=>by
  have:=an3 M n
  have:=ae0 (M+n)
  have:=ajQ (M+n)
  rw[show M+((n+1:Nat):Int)=M+n+1 by omega]
  unfold SM at *
  omega
noncomputable def lmX(sts:List TrX):Int:=match sts.getLast? with
 |some s=>if s.2.2=[109,105,110,117,116,101] then 1 else 0
 |none=>0
theorem ayX(sts:List TrX):0<=lmX sts/\lmX sts<=1:=by
 unfold lmX
 split
 ·split<;>decide
 ·decide
theorem aAL(sts:List TrX)(a b:Int)(tm:List Nat):lmX (akB sts a b tm)=if tm=[109,105,110,117,116,101] then 1 else 0:=by
 unfold akB
 split
 ·split
  ·unfold lmX;rw[dA]
  ·unfold lmX;rw[dA]
 ·rfl
theorem apY(sts:List TrX)(a b:Int)(tm:List Nat):(akB sts a b tm).length<=sts.length+1/\(tm=[109,105,110,117,116,101]->lmX sts=1->(akB sts a b tm).length=sts.length):=by
 rcases List.eq_nil_or_concat sts with rfl | ⟨l,s,rfl⟩
 ·exact⟨aS _,fun _ h=>by cases h⟩
 ·rw[List.concat_eq_append,ahW]
  split
  ·refine⟨by simp,fun _ _=>by simp⟩
  ·rename_i c
   refine⟨by simp,fun e h=>?_⟩
   exfalso
   unfold lmX at h
   rw[dA] at h
   by_cases z:s.2.2=[109,105,110,117,116,101]
   ·exact c (z.trans e.symm)
   ·have h:(if s.2.2=[109,105,110,117,116,101] then (1:Int) else 0)=1:=h
    rw[if_neg z] at h
    cases h
theorem awJ{sts:List TrX}{a b mo la be:Int}{tm:List Nat}(h:(sts.length:Int)<=2*(mo / 60-be / 60)+lmX sts)(h1:mo<=la)(h2:tm≠[109,105,110,117,116,101]->(la+1)%60=0):((akB sts a b tm).length:Int)<=2*((la+1) / 60-be / 60)+lmX (akB sts a b tm):=by
 have l1:=ayX sts
 obtain⟨n1,n2⟩:=apY sts a b tm
 rw[aAL]
 by_cases c:tm=[109,105,110,117,116,101]
 ·rw[if_pos c]
  rcases (show lmX sts=0∨lmX sts=1 by omega) with z | z
  ·omega
  ·have:=n2 c z
   omega
 ·rw[if_neg c]
  have:=h2 c
  omega
theorem af7{α β:Type}{F:α->β->Prop}:∀{l:List α} {r:List β},Paired F l r->l.length=r.length
 |_,_,.nil=>rfl
 |_,_,.cons _ t=>congrArg (·+1) (af7 t)
theorem az9{m0 m1 m3 d r y m k:Int}{kd kw:Option (List Mk)}(h:shK m0 m1 m3 kd kw d r y m k≠ .non):∃tw,shK m0 m1 m3 kd kw d r y m k=.str (Tx tw)/\(tw≠[109,105,110,117,116,101]->tw≠[104,111,117,114]->tb m3 m.toNat=true->tb (abK kd kw (aaD y m) ((d-k+1+6)%7)) k.toNat=false):=by
 by_cases c1:tb m3 m.toNat=false
 ·exact⟨_,sh1 c1,fun _ _ z=>by rw[c1] at z;cases z⟩
 have c1:=ab3 c1
 by_cases c2:tb (abK kd kw (aaD y m) ((d-k+1+6)%7)) k.toNat=false
 ·exact⟨_,sh2 c1 c2,fun _ _ _=>c2⟩
 have c2:=ab3 c2
 by_cases c3:tb m1 (r / 60).toNat=false
 ·exact⟨_,sh3 c1 c2 c3,fun _ z=>absurd rfl z⟩
 have c3:=ab3 c3
 by_cases c4:tb m0 (r%60).toNat=false
 ·exact⟨_,sh4 c1 c2 c3 c4,fun z=>absurd rfl z⟩
 exact absurd (sh5 c1 c2 c3 (ab3 c4)) h
noncomputable def SameN(H H':Hp):Prop:=∀b o,(∀ps,o≠ .tbl ps)->H b=some o->H' b=some o
theorem abU{H H':Hp}(s:Same H H'):SameN H H':=fun b o _ h=>s b o h
theorem SameN.trans{H H1 H2:Hp}(a:SameN H H1)(b:SameN H1 H2):SameN H H2:=fun c o n h=>b c o n (a c o n h)
theorem apZ{c:Cs}{H H':Hp}(s:SameN H H'){v:V}:∀{ko:Option (List Mk)},DV c H v ko->DV c H' v ko
 |none,h=>h
 |some _,⟨p,qs,e,h1,h2,h3⟩=>⟨p,qs,e,s _ _ (fun _ z=>by cases z) h1,Paired.imp' (fun x k z=>by cases k<;>(obtain⟨dx,z⟩:=z;exact⟨dx,s _ _ (fun _ z=>by cases z) z⟩)) h2,h3⟩
noncomputable def RowR(c:Cs)(CR:Addr)(H:Hp)(p:Addr)(m0 m1 m3:Int)(kd kw:Option (List Mk)):Prop:=∃(dx:Addr) (dv wv:V),H p=some (.ins CR dx (abQ m0 m1 dv m3 wv (tmF m1 m0)))/\(0<=m0/\0<=m1/\0<=m3)/\(m1<2^24/\m0<2^60)/\DV c H dv kd/\DV c H wv kw
theorem RowR.keepN{c:Cs}{CR:Addr}{H H':Hp}{p:Addr}{m0 m1 m3:Int}{kd kw:Option (List Mk)}(s:SameN H H')(h:RowR c CR H p m0 m1 m3 kd kw):RowR c CR H' p m0 m1 m3 kd kw:=by
 obtain⟨dx,dv,wv,hp,hn,hb,hd,hw⟩:=h
 exact⟨dx,dv,wv,s _ _ (fun _ z=>by cases z) hp,hn,hb,apZ s hd,apZ s hw⟩
theorem RowR.ok{c:Cs}{CR:Addr}{H:Hp}{p:Addr}{m0 m1 m3:Int}{kd kw:Option (List Mk)}(h:RowR c CR H p m0 m1 m3 kd kw):GOk (aaU (tmF m1 m0) m3 kd kw):=by
 obtain⟨dx,dv,wv,hp,hn,hb,hd,hw⟩:=h
 exact aCD hn.2.1 hb.1 hn.1 hb.2
noncomputable def aoR(P:Program)(w:World)(K:FG)(mg:Str->Option Value)(base:Heap)(n:Nat)(H:Hp)(f:Addr)(g:Int->Nat->Int):Prop:=
 FnHO H f/\∀(H1:Hp) (kd:Int) (Q:VK),Same H H1->0<=kd->kd<=90->(∀D H2,Same H1 H2->H2 D=some (.lst ((acL g kd).map V.int))->Q (.ref D) H2)->Calls P w K mg base n f [.int kd] H1 Q
theorem auX{H H1:Hp}{f:Addr}(s:Same H H1)(h:FnHO H f):FnHO H1 f:=by
 obtain⟨oc,od,fd,sl,e⟩:=h
 exact⟨oc,od,fd,sl,s _ _ e⟩
noncomputable def av2(g:Int->Nat->Int)(kvs:List (Key×V)):Prop:=∀(k:Int) (v:V),acI kvs (.inl k)=some v->v=.int (wK g k)
theorem aDF{g:Int->Nat->Int}{kvs:List (Key×V)}(h:av2 g kvs)(k:Int):av2 g (afX kvs (.inl k) (.int (wK g k))):=fun j v e=>by
 rw[apR] at e
 by_cases c:(Sum.inl j:Key)=.inl k
 ·rw[if_pos c] at e
  cases c
  exact (bA e).symm
 ·rw[if_neg c] at e
  exact h j v e
theorem aDW(x:Int):(if 0>x then 0 else x)=max x 0:=by split<;>omega
theorem aD1(x c:Int):(if c<x then c else x)=min x c:=by split<;>omega
theorem aGF(g:Int->Nat->Int){k:Int}(h0:0<=k)(h1:k<=90):(acL g k).length<=31:=by
 rw[asR]
 have:=(agV h0 h1).2.1
 omega
theorem aAY{m:Int}(h:0<m):∃l:Nat,(Builtin.Int.intBits m:Int)=l+1/\tb m l=true/\∀j,l<j->tb m j=false:=by
 have h1:=atD (bJ h)
 obtain⟨n,hn⟩:∃n,n=Builtin.Int.intBits m:=⟨_,rfl⟩
 rw[←hn] at h1 ⊢
 cases n with
 |zero=>exfalso;have:(2:Int)^0=1:=rfl;omega
 |succ l=>
  refine⟨l,by omega,?_,fun j hj=>acP h1 hj⟩
  cases e:tb m l with
  |true=>rfl
  |false=>
   exfalso
   have lt:m<2^l:=awV (bJ h) fun i hi=>by
    rcases Nat.lt_trichotomy i l with c | c | c
    ·exact c
    ·rw[c,e] at hi;cases hi
    ·rw[acP h1 c] at hi;cases hi
   have:=ajP (bJ h) lt
   omega
noncomputable def aHT(x:Str):Str:=x++".<locals>."++"<lambda>"
noncomputable def aiK(H:Hp)(Pt:Addr)(lp:Pos)(q:Str):Prop:=H Pt=some (.tbl #[])∨∃c0,H Pt=some (.tbl #[rawInt lp.line,rawInt lp.col,.ref c0])/\H c0=some (al4 c0 q)
theorem avH(lp:Pos)(c0:Addr):codeAmong lp [rawInt lp.line,rawInt lp.col,.ref c0]=some (.ref c0):=by simp[codeAmong,rawInt]
theorem agF{H H':Hp}{Pt:Addr}{lp:Pos}{q:Str}(s:Same H H')(h:aiK H Pt lp q):aiK H' Pt lp q:=by
 rcases h with h | ⟨c0,h,hc⟩
 ·exact .inl (s _ _ h)
 ·exact .inr ⟨c0,s _ _ h,s _ _ hc⟩
theorem ac0{HL H':Hp}{a:Addr}{x:HO}(ha:HL a=none)(s':Same (upd HL a x) H'):Same HL (era H' a):=fun b o hb=>by
 have nb:b≠a:=fun z=>by rw[z,ha] at hb;cases hb
 rw[abI nb]
 exact s' _ _ (by rw[aaF nb];exact hb)
noncomputable def arQ(H:Hp)(l:Addr):Prop:=∀o,(∀ps,o≠ .tbl ps)->H l≠some o
theorem agC{H H':Hp}{l:Addr}(s:SameN H H')(h:H' l=none):arQ H l:=fun o n e=>by
 rw[s _ _ n e] at h
 cases h
noncomputable def aHL(H HL:Hp)(f:Addr)(qual:Str)(params:Arguments)(body:Expr)(scope:Scope)(a:Addr)(pm:Value)(tN tL:Addr)(pN pL:Pos)(qN qL:Str):Prop:=
 H f=none/\SameN H HL/\(∃c' ctv,HL f=some (abY f (ar1 qual params body scope "row" a pm c' ctv))/\HL c'=some (al4 c' qual))/\aiK HL tN pN qN/\aiK HL tL pL qL
theorem ahJ{H H':Hp}{bm:Addr}(s:SameN H H')(h:au0 H bm):au0 H' bm:=by
 obtain⟨ob,u,e,r⟩:=h
 exact⟨ob,u,s _ _ (fun _ z=>by cases z) e,r⟩
theorem ap7{H:Hp}{qual:Str}{params:Arguments}{body:Expr}{scope:Scope}{a tN tL bm:Addr}{pm:Value}{pN pL:Pos}{qL:Str}{Q:VK}(h1:aiK H tN pN qual)(h2:aiK H tL pL qL)(ne:tN≠tL)(hbm:au0 H bm)(h:∀f HL,aHL H HL f qual params body scope a pm tN tL pN pL qual qL->Q (.ref f) HL){σ:L2.St}:aJL tN bm pN qual params body scope "row" a pm σ H Q:=by
 have oth:∀{b:Addr} {o:HO},H b=some o->(∀ps,o≠ .tbl ps)->b≠tN:=fun hb n z=>by
  rcases h1 with e | ⟨c0,e,_⟩<;>(rw[z,e] at hb;exact n _ (bA hb).symm)
 rcases h1 with e | ⟨c0,e,hc⟩
 ·refine⟨hbm,#[],e,True.intro,.inl ⟨rfl,fun f c' ctv hf hc' hcf=>h f _ ⟨hf,fun b o n hb=>?_,⟨c',ctv,aaA,?_⟩,?_,?_⟩⟩⟩
  ·rw[aaF (fun z=>by rw[z,hf] at hb;cases hb),aaF (fun z=>by rw[z,hc'] at hb;cases hb),aaF (oth hb n)]
   exact hb
  ·rw[aaF hcf,aaA]
  ·refine .inr ⟨c',?_,by rw[aaF hcf,aaA]⟩
   rw[aaF (fun z=>by rw[z,hf] at e;cases e),aaF (fun z=>by rw[z,hc'] at e;cases e),aaA]
   rfl
  ·have k:∀{b:Addr} {o:HO},b≠tN->H b=some o->upd (upd (upd H tN (.tbl (#[]++ #[rawInt pN.line,rawInt pN.col,.ref c']))) c' (al4 c' qual)) f (abY f (ar1 qual params body scope "row" a pm c' ctv)) b=some o:=fun {b o} nb hb=>by
    rw[aaF (fun z=>by rw[z,hf] at hb;cases hb),aaF (fun z=>by rw[z,hc'] at hb;cases hb),aaF nb]
    exact hb
   rcases h2 with e2 | ⟨c2,e2,h2⟩
   ·exact .inl (k ne.symm e2)
   ·exact .inr ⟨c2,k ne.symm e2,k (oth h2 fun ps z=>by cases z) h2⟩
 ·refine⟨hbm,_,e,(by simp[TriplesOk,rawInt]),.inr ⟨c0,avH pN c0,hc,fun f ctv hf=>h f _ ⟨hf,abU (aaB hf _),⟨c0,ctv,aaA,aaB hf _ _ _ hc⟩,agF (aaB hf _) (.inr ⟨c0,e,hc⟩),agF (aaB hf _) h2⟩⟩⟩
noncomputable def aiS(H:Hp)(tN tL bm:Addr):Prop:=aiK H tN ⟨181,21,181,51⟩ (aHT "next_from")/\aiK H tL ⟨186,21,186,51⟩ (aHT "last_to")/\tN≠tL/\au0 H bm
theorem ac5{H H':Hp}{tN tL bm:Addr}(s:Same H H')(h:aiS H tN tL bm):aiS H' tN tL bm:=⟨agF s h.1,agF s h.2.1,h.2.2.1,ahJ (abU s) h.2.2.2⟩
theorem au8:∀m∈aq3,∀l∈ls4,∀f∈fs7,wkD m l f<2^(l.toNat+1):=by decide +kernel
theorem am5:∀l∈ls4,∀f∈fs7,∀d∈anR,d<=l->nw d l f<=l:=by decide +kernel
theorem acY{a n:Nat}(h:a<n):(1:Int)*2^a<2^n:=by
 have e:(2:Int)^n=2^a*2^(n-a):=by rw[←Int.pow_add,show a+(n-a)=n by omega]
 have p:=aaO a
 have q:(2:Int)<=2^(n-a):=by
  obtain⟨k,hk⟩:∃k,n-a=k+1:=⟨n-a-1,by omega⟩
  rw[hk,Int.pow_succ]
  have:=aaO k
  omega
 rw[e,Int.one_mul]
 have:(2:Int)^a*1<2^a*2^(n-a):=Int.mul_lt_mul_of_pos_left (by omega) p
 omega
theorem aEI{k:Mk}{l f:Int}(hk:k.ok)(h:Lf l f):k.due l f<2^(l.toNat+1):=by
 have hl:=h.1
 have p:=aaO (l.toNat+1)
 cases k with
 |num m=>
  show avW m l<_
  rw[(asS hk h.1).1]
  have e:=auU (n:=l.toNat+1) 0 (asS hk h.1).2.2.1 (fun d hd=>by have:=(anY m l.toNat).2.2 d hd;omega) (by omega)
  have e1:(2:Int)^0=1:=rfl
  omega
 |lst b=>
  show (if l<=b then (0:Int) else 1*2^(l-b).toNat)<_
  have hb:=hk.1
  split
  ·exact p
  ·exact acY (by omega)
 |nea d=>
  show (if l<d then (0:Int) else 1*2^(nw d l f).toNat)<_
  split
  ·exact p
  ·have:=am5 l (asY hl.1 hl.2) f (alT h.2.1 h.2.2) d (aDO hk.1 hk.2) (by omega)
   exact acY (by omega)
 |wrk=>
  have:=am5 l (asY hl.1 hl.2) f (alT h.2.1 h.2.2) l (aDO (by omega) hl.2) (aX _)
  exact acY (by omega)
 |wkd m=>exact au8 m (aDK hk.1 hk.2) l (asY hl.1 hl.2) f (alT h.2.1 h.2.2)
 |nth w m=>
  show (if l<adJ w m f then (0:Int) else 1*2^(adJ w m f).toNat)<_
  split
  ·exact p
  ·exact acY (by omega)
 |one w=>
  have:ae1 w l f<=l:=by
   unfold ae1
   have:=bR ((f+l-1)%7-w) (show (7:Int)≠0 by decide)
   omega
  exact acY (by omega)
 |nil=>exact p
theorem awF{ko:Option (List Mk)}{a l f:Int}(h:Lf l f)(o:∀ks,ko=some ks->∀k∈ks,k.ok)(ha:0<=a)(ha2:a<2^(l.toNat+1)):orO ko a l f<2^(l.toNat+1):=by
 cases ko with
 |none=>exact ha2
 |some ks=>exact aNJ ha (awE h (o ks rfl)) ha2 (axA fun m hm=>by
   obtain⟨k,hk,rfl⟩:=bS.mp hm
   exact⟨ax7 (o ks rfl k hk) h,aEI (o ks rfl k hk) h⟩)
theorem ax9{kd kw:Option (List Mk)}{l f:Int}(h:Lf l f)(od:∀ks,kd=some ks->∀k∈ks,k.ok)(ow:∀ks,kw=some ks->∀k∈ks,k.ok):abK kd kw l f<2^(l.toNat+1):=by
 have p:=aaO (l.toNat+1)
 unfold abK
 split
 ·rw[Int.pow_succ]
  omega
 ·exact awF h ow (ajY (b:=false) h od (aX 0)) (awF h od (aX 0) p)
noncomputable def ak3(m0 m1 m3:Int)(kd kw:Option (List Mk))(t:Int)(v:V):Prop:=∀y m k:Int,OkD y m k->adI y m k=t / 1440->shK m0 m1 m3 kd kw (t / 1440) (t%1440) y m k=v
noncomputable def awT(m3:Int)(kd kw:Option (List Mk))(d:Int)(tw:List Nat):Prop:=∀y m k:Int,OkD y m k->adI y m k=d->(tw=[109,111,110,116,104]/\tb m3 m.toNat=false)∨(tw=[100,97,121]/\tb m3 m.toNat=true/\tb (abK kd kw (aaD y m) ((d-k+1+6)%7)) k.toNat=false)
theorem aCZ{m0 m1 m3 t:Int}{kd kw:Option (List Mk)}{tw:List Nat}(h:awT m3 kd kw (t / 1440) tw):ak3 m0 m1 m3 kd kw t (.str (Tx tw)):=fun y m k ok e=>by
 rcases h y m k ok e with ⟨rfl,z⟩ | ⟨rfl,z,z2⟩
 ·exact sh1 z
 ·exact sh2 z z2
theorem adK{a b:List Nat}(h:V.str (Tx a)=V.str (Tx b)):a=b:=Tx_inj.mp (by injection h)
theorem aCB{m0 m1 m3 t:Int}{kd kw:Option (List Mk)}{tw:List Nat}(h:ak3 m0 m1 m3 kd kw t (.str (Tx tw)))(n1:tw≠[109,105,110,117,116,101])(n2:tw≠[104,111,117,114]):awT m3 kd kw (t / 1440) tw:=fun y m k ok e=>by
 have z:=h y m k ok e
 by_cases c1:tb m3 m.toNat=false
 ·rw[sh1 c1] at z
  exact .inl ⟨(adK z).symm,c1⟩
 have c1:=ab3 c1
 by_cases c2:tb (abK kd kw (aaD y m) ((t / 1440-k+1+6)%7)) k.toNat=false
 ·rw[sh2 c1 c2] at z
  exact .inr ⟨(adK z).symm,c1,c2⟩
 have c2:=ab3 c2
 by_cases c3:tb m1 (t%1440 / 60).toNat=false
 ·rw[sh3 c1 c2 c3] at z
  exact absurd (adK z).symm n2
 have c3:=ab3 c3
 by_cases c4:tb m0 (t%1440%60).toNat=false
 ·rw[sh4 c1 c2 c3 c4] at z
  exact absurd (adK z).symm n1
 rw[sh5 c1 c2 c3 (ab3 c4)] at z
 cases z
theorem azE{m0 m1 m3 t u:Int}{kd kw:Option (List Mk)}(h:ak3 m0 m1 m3 kd kw t (.str (Tx [104,111,117,114])))(e1:u / 1440=t / 1440)(e2:u%1440 / 60=t%1440 / 60):ak3 m0 m1 m3 kd kw u (.str (Tx [104,111,117,114])):=fun y m k ok e=>by
 rw[e1] at e ⊢
 have z:=h y m k ok e
 by_cases c1:tb m3 m.toNat=false
 ·rw[sh1 c1] at z
  exact absurd (adK z) (by decide)
 have c1:=ab3 c1
 by_cases c2:tb (abK kd kw (aaD y m) ((t / 1440-k+1+6)%7)) k.toNat=false
 ·rw[sh2 c1 c2] at z
  exact absurd (adK z) (by decide)
 have c2:=ab3 c2
 by_cases c3:tb m1 (t%1440 / 60).toNat=false
 ·exact sh3 c1 c2 (by rw[e2];exact c3)
 have c3:=ab3 c3
 by_cases c4:tb m0 (t%1440%60).toNat=false
 ·rw[sh4 c1 c2 c3 c4] at z
  exact absurd (adK z) (by decide)
 rw[sh5 c1 c2 c3 (ab3 c4)] at z
 cases z
theorem aAZ{h m:Int}(h0:0<=h)(h1:h<2^24)(hm:0<=m)(hm2:m<2^60){r:Nat}(e:tb (tmF h m) r=true):tb h (r / 60)=true/\tb m (r%60)=true:=by
 unfold tmF at e
 rw[adC (fun z hz=>by
  obtain⟨y,_,rfl⟩:=bS.mp hz
  exact Int.mul_nonneg hm (bJ (aaO _))),List.any_eq_true] at e
 obtain⟨_,hz,e⟩:=e
 obtain⟨y,hy,rfl⟩:=bS.mp hz
 rw[ajK h0 h1,flt_mem] at hy
 obtain⟨i,hi,hb,rfl⟩:=hy
 rw[show (60*(0+(i:Int))).toNat=60*i by omega,an6 hm,bH,dU] at e
 have hlt:r-60*i<60:=by
  rcases Nat.lt_or_ge (r-60*i) 60 with c | c
  ·exact c
  ·rw[acP hm2 c] at e
   cases e.2
 rw[show r / 60=i by omega,show r%60=r-60*i by omega]
 exact⟨hb,e.2⟩
theorem aJY{m0 m1 m3 t:Int}{kd kw:Option (List Mk)}(hn:0<=m0/\0<=m1/\0<=m3)(hb:m1<2^24/\m0<2^60)(hg:GOk (aaU (tmF m1 m0) m3 kd kw))(h:EvG (aaU (tmF m1 m0) m3 kd kw) t):ak3 m0 m1 m3 kd kw t .non:=fun y m k ok e=>by
 obtain⟨M,a1,a2,a3⟩:=h
 have hm:=ok.1
 have hk:=ok.2
 have f7:=ajO ok e
 have mk:=ab9 (y:=y) ok.1.1 ok.1.2
 have e1:(12*y+m-1) / 12=y:=by omega
 have e2:(12*y+m-1)%12+1=m:=by omega
 have ek:acS (12*y+m-1)=kindOf y m:=by unfold acS;rw[e1,e2]
 have ed:ag2 (12*y+m-1)=db y+ahead y m:=by unfold ag2;rw[e1,e2]
 have el:alZ (12*y+m-1)=aaD y m:=by unfold alZ;rw[e1,e2]
 have up:=ae0 (12*y+m-1)
 have e':db y+ahead y m+k-1=t / 1440:=e
 obtain rfl:12*y+m-1=M:=(asU hg).uniq (t:=t) (by unfold SM;omega) (by unfold SM;omega) a1 a2
 unfold WM at a3
 have ei:(t-SM (12*y+m-1)).toNat=1440*(k-1).toNat+(t%1440).toNat:=by unfold SM;omega
 rw[aw2 hg,ei,show (1440*(k-1).toNat+(t%1440).toNat) / 1440=(k-1).toNat by omega,show (1440*(k-1).toNat+(t%1440).toNat)%1440=(t%1440).toNat by omega,ek,bH] at a3
 have a3:=a3.2
 unfold aaU at a3
 split at a3
 ·rename_i c
  unfold dIn at c
  rw[mk.1,mk.2,f7,show (k-1).toNat+1=k.toNat by omega] at c
  split at c
  ·rename_i c1
   obtain⟨z1,z2⟩:=aAZ hn.2.1 hb.1 hn.1 hb.2 a3
   exact sh5 c1 c (by rw[show (t%1440 / 60).toNat=(t%1440).toNat / 60 by omega];exact z1) (by rw[show (t%1440%60).toNat=(t%1440).toNat%60 by omega];exact z2)
  ·rw[aa4] at c
   cases c
 ·rw[aa4] at a3
  cases a3
noncomputable def aqI(m0 m1 m3:Int)(kd kw:Option (List Mk))(b e:Int)(s:TrX):Prop:=b<=s.1/\s.1<=s.2.1/\s.2.1<=e/\∀t,s.1<=t->t<=s.2.1->ak3 m0 m1 m3 kd kw t (.str (Tx s.2.2))
theorem aCW{m0 m1 m3 b mo la:Int}{kd kw:Option (List Mk)}{sts:List TrX}{tw:List Nat}(h:∀s∈sts,aqI m0 m1 m3 kd kw b (mo-1) s)(hl:∀s,sts.getLast? =some s->s.2.1+1=mo)(hb:b<=mo)(h1:mo<=la)(hw:∀t,mo<=t->t<=la->ak3 m0 m1 m3 kd kw t (.str (Tx tw))):
  (∀s∈akB sts mo la tw,aqI m0 m1 m3 kd kw b la s)/\∀s,(akB sts mo la tw).getLast? =some s->s.2.1+1=la+1:=by
 have old:∀s∈sts,aqI m0 m1 m3 kd kw b la s:=fun s hs=>by
  obtain⟨a1,a2,a3,a4⟩:=h s hs
  exact⟨a1,a2,by omega,a4⟩
 rcases List.eq_nil_or_concat sts with rfl | ⟨l,s,rfl⟩
 ·refine⟨fun s hs=>?_,fun s hs=>?_⟩
  ·rw[bL.mp (show s∈[((mo,la,tw):TrX)] from hs)]
   exact⟨hb,h1,aX _,hw⟩
  ·obtain rfl:((mo,la,tw):TrX)=s:=bA hs
   rfl
 ·rw[List.concat_eq_append] at *
  have hs0:=h s (bN _ (bL.mpr rfl))
  have he:=hl s (by rw[dA])
  rw[ahW]
  split
  ·rename_i c
   refine⟨fun z hz=>?_,fun z hz=>?_⟩
   ·rcases bM.mp hz with q | q
    ·exact old z (List.mem_append_left _ q)
    ·rw[bL.mp q]
     refine⟨hs0.1,by show s.1<=la;have:=hs0.2.1;omega,aX _,fun t t1 t2=>?_⟩
     rcases cL t mo with w | w
     ·show ak3 m0 m1 m3 kd kw t (.str (Tx tw))
      rw[←c]
      exact hs0.2.2.2 t t1 (by omega)
     ·exact hw t w t2
   ·rw[dA] at hz
    obtain rfl:=bA hz
    rfl
  ·refine⟨fun z hz=>?_,fun z hz=>?_⟩
   ·rcases bM.mp hz with q | q
    ·exact old z q
    ·rw[bL.mp q]
     exact⟨hb,h1,aX _,hw⟩
   ·rw[dA] at hz
    obtain rfl:=bA hz
    rfl
theorem aoU:∀n:Nat,n<100->∀c∈num n,c<128:=by decide +kernel
theorem adV{l:List Nat}(h:l.all (fun c=>decide (c<128))=true):Asc l:=fun c hc=>dQ (bW.mp h c hc)
theorem abF{a b:List Nat}(h1:Asc a)(h2:Asc b):Asc (a++b):=fun c h=>(bM.mp h).elim (h1 c) (h2 c)
theorem ah3{α β:Type}{F:α->β->Prop}:∀(j:Nat) {l:List α} {r:List β},Paired F l r->Paired F (l.drop j) (r.drop j)
 |0,_,_,h=>h
 |_+1,_,_,.nil=>.nil
 |j+1,_,_,.cons _ t=>ah3 j t
theorem aiB{α β:Type}{F:α->β->Prop}:∀(j:Nat) {l:List α} {r:List β},Paired F l r->Paired F (l.take j) (r.take j)
 |0,_,_,_=>.nil
 |_+1,_,_,.nil=>.nil
 |j+1,_,_,.cons h t=>.cons h (aiB j t)
theorem apB{ds ss:List Int}(h:Digs ds ss)(j n:Nat):Digs ((ds.drop j).take n) ((ss.drop j).take n):=aiB n (ah3 j h)
theorem acQ{ds ss:List Int}:∀{i:Nat} {z:Int},Digs ds ss->ss[i]? =some z->∃d,ds[i]? =some d/\0<=d/\d<z:=by
 induction ds generalizing ss with
 |nil=>intro i z h e;cases h;cases e
 |cons d ds ih=>
  intro i z h e
  cases h with
  |cons r t=>
   cases i with
   |zero=>cases e;exact⟨d,rfl,r⟩
   |succ i=>exact ih t e
theorem adE{ds:List Int}{i:Nat}{d:Int}(e:ds[i]? =some d):atI (ds.map V.int) (i:Int)=some (.int d):=ae2 (by rw[bE,e];rfl)
theorem axO{ds:List Int}{j n:Nat}(h:j+n<=ds.length){a b:Int}(ea:a=j)(eb:b=j+n):ahL (ds.map V.int) (some a) (some b)=((ds.drop j).take n).map V.int:=by
 subst ea
 rw[show b=((j+n:Nat):Int) by omega]
 unfold ahL
 rw[HT.sIx_nat,HT.sIx_nat,aU,Nat.min_eq_left h,Nat.min_eq_left (show j<=ds.length by omega),←List.map_drop,←List.map_take,show j+n-j=n by omega]
theorem awZ{ds ss:List Int}(hd:Digs ds ss){j:Nat}{s0 s1 s2 s3:Int}(e:(ss.drop j).take 4=[s0,s1,s2,s3]){a b:Int}(ea:a=j)(eb:b=j+4):∃w1 w2 w3 w4:Int,ahL (ds.map V.int) (some a) (some b)=[.int w1,.int w2,.int w3,.int w4]/\(0<=w2/\w2<s1):=by
 have hl:=hd.len
 have h4:=congrArg List.length e
 rw[cR,List.length_drop] at h4
 have h4:min 4 (ss.length-j)=4:=h4
 obtain⟨w1,w2,w3,w4,ew,_,k,_⟩:=Digs.four (e▸apB hd j 4)
 exact⟨w1,w2,w3,w4,by rw[axO (n:=4) (by omega) ea eb,ew];rfl,k⟩
theorem apI{ds ss:List Int}(hd:Digs ds ss){j:Nat}{s0 s1 s2 s3 s4:Int}(e:(ss.drop j).take 5=[s0,s1,s2,s3,s4]){a b:Int}(ea:a=j)(eb:b=j+5):∃w1 w2 w3 w4 w5:Int,ahL (ds.map V.int) (some a) (some b)=[.int w1,.int w2,.int w3,.int w4,.int w5]/\(0<=w3/\w3<s2):=by
 have hl:=hd.len
 have h4:=congrArg List.length e
 rw[cR,List.length_drop] at h4
 have h4:min 5 (ss.length-j)=5:=h4
 obtain⟨w1,w2,w3,w4,w5,ew,_,_,k,_⟩:=Digs.five (e▸apB hd j 5)
 exact⟨w1,w2,w3,w4,w5,by rw[axO (n:=5) (by omega) ea eb,ew];rfl,k⟩
theorem aoV{b:Bool}{ws:List (List Nat)}{ks:List Mk}(h:Ws b ws ks)(hne:ws≠[])(hn:ws.length<=20)(ho:∀k∈ks,k.sp=true/\k.wk=b/\k.ok):∃ko,DT b (aa1 44 ws) ko:=by
 by_cases c:aa1 44 ws=[42]
 ·rw[c]
  exact⟨none,agL b⟩
 ·have w:=aBU h hne hn
  exact⟨some ks,⟨ahA (by decide) fun x hx=>(h.cl x hx).1.2,at0 hne (fun x hx=>(h.cl x hx).2.1) 44⟩,w.2,c,ho,axH h w.1⟩
noncomputable def OkM(b:Bool)(k:Mk):Prop:=k.sp=true/\k.wk=b/\k.ok
theorem ax0:FT 1 12 [50] (abA [2]):=by
 have h:FT 1 12 (aa1 44 [num (2:Int).toNat]) (abA [[2]].flatten):=apN (.cons (i1 (a:=2) (by decide) (by decide) (by decide) (by decide)) .nil) (c9 _ _) (by decide)
 have e:aa1 44 [num (2:Int).toNat]=[50]:=by decide +kernel
 rw[e] at h
 exact h
theorem aE7:∃ko,DT false [50,57] ko:=by
 have it:=i1 (lo:=1) (hi:=31) (a:=29) (by decide) (by decide) (by decide) (by decide)
 have hp:=ahY (ns:=[29]) (c9 _ _) (fun n hn=>by rw[bL.mp hn];decide)
 have w:Ws false [num (29:Int).toNat] [.num (abA [29])]:=.cons ⟨it.2.1,rfl,it.1,hp⟩ .nil
 obtain⟨ko,h⟩:=aoV w (c9 _ _) (by decide) (fun k hk=>by rw[bL.mp hk];exact⟨rfl,rfl,bJ hp⟩)
 have e:aa1 44 [num (29:Int).toNat]=[50,57]:=by decide +kernel
 rw[e] at h
 exact⟨ko,h⟩
theorem azT{d:Int}(h0:0<=d)(h1:d<8):∃ko,DT true (num d.toNat++[35,53]) ko:=by
 have z:=aBP d.toNat (by omega) 5 (by decide) (by decide)
 have e:num d.toNat++[35]++num 5=num d.toNat++[35,53]:=by rw[List.append_assoc];rfl
 rw[e] at z
 have w:Ws true [num d.toNat++[35,53]] [.nth ((d.toNat:Int)%7) (5:Nat)]:=.cons ⟨z.2,z.1⟩ .nil
 exact aoV w (c9 _ _) (by show 1<=20;decide) (fun k hk=>by rw[bL.mp hk];exact⟨rfl,rfl,⟨by omega,by omega⟩,by decide,by decide⟩)
theorem amZ{α β:Type}{F:α->β->Prop}:∀{l:List α} {r:List β},Paired F l r->∀{i:Nat} {a:α},l[i]? =some a->∃b,r[i]? =some b/\F a b
 |_,_,.nil,_,_,h=>nomatch h
 |_,_,.cons r _,0,_,h=>by cases h;exact⟨_,rfl,r⟩
 |_,_,.cons _ t,i+1,_,h=>amZ t h
theorem ifD'{c:Prop}[Decidable c]{A B:Prop}(h1:c->False)(h2:A):if (!decide c)=true then A else B:=by
 rw[dW h1]
 exact (abB h2:if true=true then A else B)
theorem av6{K:FG}{H H':Hp}{a:Addr}{xs:List V}(e:SameN H H')(h:SqL K H a xs):SqL K H' a xs:=by
 rcases h with (h | ⟨o,h⟩) | h
 ·exact .inl (.inl (e _ _ (fun _ z=>by cases z) h))
 ·exact .inl (.inr ⟨o,e _ _ (fun _ z=>by cases z) h⟩)
 ·exact .inr h
noncomputable def as5(K:FG):Sp:=fun vs H Q _=>∃y:Int,vs=[.int y]/\Q (.bl (aa7 y)) H
noncomputable def ae6(K:FG):Sp:=fun vs H Q _=>∃y z:Int,vs=[.int y,.int z]/\(0<z/\z<1073741824)/\Q (.int (mb y z)) H
noncomputable def ak6(K:FG):Sp:=fun vs H Q _=>∃y:Int,vs=[.int y]/\Q (.int (db y)) H
noncomputable def asQ(K:FG):Sp:=fun vs H Q _=>∃y m:Int,vs=[.int y,.int m]/\(1<=m/\m<=12)/\Q (.int (aaD y m)) H
noncomputable def aqH(K:FG):Sp:=fun vs H Q _=>∃i:Int,vs=[.int i]/\Q (.bl true) H
noncomputable def ar7(K:FG):Sp:=fun vs H Q _=>∃y m k:Int,vs=[.int y,.int m,.int k]/\((1<=m/\m<=12)/\1<=k/\k<=aaD y m)/\Q (.bl true) H
noncomputable def au3(K:FG):Sp:=fun vs H Q _=>∃y m k:Int,vs=[.int y,.int m,.int k]/\((1<=m/\m<=12)/\1<=k/\k<=aaD y m)/\∀H',Same H H'->Q (.int (db y+ahead y m+k-1)) H'
noncomputable def ar9(K:FG):Sp:=fun vs H Q _=>∃d:Int,vs=[.int d]/\∀y:Int,db y<=d->d<db (y+1)->Q (.int y) H
noncomputable def asZ(K:FG):Sp:=fun vs H Q _=>∃d:Int,vs=[.int d]/\∀(y m k:Int) (p:Addr) (H':Hp),OkD y m k->adI y m k=d->Same H H'->H' p=some (.tup [.int y,.int m,.int k])->Q (.ref p) H'
noncomputable def asM(K:FG):Sp:=fun vs H Q _=>∃d:Int,vs=[.int d]/\Q (.int ((d+6)%7)) H
noncomputable def an5(K:FG):Sp:=fun vs H Q _=>∃y m d:Int,vs=[.int y,.int m,.int d]/\Q (.int (7*plc y m+(d+6)%7)) H
noncomputable def ar4(K:FG):Sp:=fun vs H Q _=>∃y m:Int,vs=[.int y,.int m]/\(1<=m/\m<=12)/\∀H':Hp,Same H H'->Q (.int (kindOf y m)) H'
noncomputable def awB(K:FG):Sp:=fun vs H Q _=>∃mo:Int,vs=[.int mo]/\∀(p:Addr) (H':Hp),Same H H'->H' p=some (.tup [.int (mo / 1440),.int (mo%1440 / 60),.int (mo%1440%60)])->Q (.ref p) H'
noncomputable def akY(K:FG):Sp:=fun vs H Q _=>∃l:List Nat,vs=[.str (Tx l)]/\l.length<=2000/\∀H',Same H H'->Q (.bl (aoS l)) H'
noncomputable def alL(K:FG):Sp:=fun vs H Q _=>∃l:List Nat,vs=[.str (Tx l)]/\l.length<=2000/\∀H',Same H H'->Q (.bl (isW l)) H'
noncomputable def aD4(K:FG):Sp:=fun vs H Q _=>∃m n:Int,vs=[.int m,.int n]/\(0<=m/\0<=n)/\Q (.bl (tb m n.toNat)) H
noncomputable def asG(K:FG):Sp:=fun vs H Q _=>∃(a:Addr) (zs:List Int),vs=[.ref a]/\SqL K H a (zs.map V.int)/\(∀z∈zs,0<=z/\z<=100000)/\Q (.int (abA zs)) H
noncomputable def alV(K:FG):Sp:=fun vs H Q _=>∃m:Int,vs=[.int m]/\(0<=m/\Builtin.Int.intBits m<=100000)/\∀(p:Addr) (H':Hp),Same H H'->H' p=some (.lst ((ap9 m).map V.int))->Q (.ref p) H'
noncomputable def aqC(K:FG):Sp:=fun vs H Q _=>∃a b s:Int,vs=[.int a,.int b,.int s]/\(0<=a/\a<=1000)/\(-1<=b/\b<=1000)/\(0<s/\s<=1000)/\∀H',Same H H'->Q (.int (aiV a b s)) H'
noncomputable def akR(K:FG):Sp:=fun vs H Q _=>∃(l:List Nat) (lo hi:Int),vs=[.str (Tx l),.int lo,.int hi]/\l.length<=600/\∀H',Same H H'->Q (oV (aaT lo hi l)) H'
noncomputable def apF(K:FG):Sp:=fun vs H Q _=>∃(l:List Nat) (lo hi:Int),vs=[.str (Tx l),.int lo,.int hi]/\l.length<=500/\∀(r:V) (H':Hp),Same H H'->RunV H' r (aaV lo hi l)->Q r H'
noncomputable def ajI(K:FG):Sp:=fun vs H Q _=>∃(r s:List Nat) (lo hi:Int),vs=[.str (Tx r),.str (Tx s),.int lo,.int hi]/\r.length<=400/\s.length<=400/\(0<=lo/\lo<=hi/\hi<=1000)/\∀H',Same H H'->Q (oV (abN lo hi r s)) H'
noncomputable def ao5(K:FG):Sp:=fun vs H Q _=>∃(l:List Nat) (lo hi:Int),vs=[.str (Tx l),.int lo,.int hi]/\l.length<=300/\(0<=lo/\lo<=hi/\hi<=1000)/\∀H',Same H H'->Q (oV (aaJ lo hi l)) H'
noncomputable def amA(K:FG):Sp:=fun vs H Q _=>∃(l:List Nat) (lo hi:Int),vs=[.str (Tx l),.int lo,.int hi]/\l.length<=300/\(0<=lo/\lo<=hi/\hi<=1000)/\auG lo hi l/\∀H',Same H H'->Q (.int (orM (ac8 lo hi l))) H'
noncomputable def al6(K:FG):Sp:=fun vs H Q _=>∃d f:Int,vs=[.int d,.int f]/\Q (.int ((f+d-1)%7)) H
noncomputable def aqB(K:FG):Sp:=fun vs H Q _=>∃l:Int,vs=[.int l]/\(28<=l/\l<=31)/\Q (.int (2*2^l.toNat-2)) H
noncomputable def aiU(K:FG):Sp:=fun vs H Q _=>∃d l f:Int,vs=[.int d,.int l,.int f]/\Q (.int (nw d l f)) H
noncomputable def aoQ(K:FG):Sp:=fun vs H Q _=>∃w f:Int,vs=[.int w,.int f]/\Q (.int (1+(w-f)%7)) H
noncomputable def aoD(K:FG)(C:Addr):Sp:=fun vs H Q _=>∃(p:Addr) (l f:Int),vs=[.ref p,.int l,.int f]/\Q (.int 0) H
noncomputable def ae8(K:FG)(C:Addr):Sp:=fun vs H Q _=>∃(p dx:Addr) (m:Int),vs=[.ref p,.int m]/\H p=some (.ins C dx [])/\Q .non (upd H p (.ins C dx [("mask",.int m)]))
noncomputable def aiR(K:FG)(C:Addr):Sp:=fun vs H Q _=>∃(p dx:Addr) (m l f:Int),vs=[.ref p,.int l,.int f]/\H p=some (.ins C dx [("mask",.int m)])/\Lf l f/\Q (.int (avW m l)) H
noncomputable def ah0(K:FG)(C:Addr):Sp:=fun vs H Q _=>∃(p dx:Addr) (m:Int),vs=[.ref p,.int m]/\H p=some (.ins C dx [])/\Q .non (upd H p (.ins C dx [("back",.int m)]))
noncomputable def ao2(K:FG)(C:Addr):Sp:=fun vs H Q _=>∃(p dx:Addr) (b l f:Int),vs=[.ref p,.int l,.int f]/\H p=some (.ins C dx [("back",.int b)])/\(0<=b/\b<=30)/\Lf l f/\Q (.int (aq5 b l)) H
noncomputable def ahR(K:FG)(C:Addr):Sp:=fun vs H Q _=>∃(p dx:Addr) (m:Int),vs=[.ref p,.int m]/\H p=some (.ins C dx [])/\Q .non (upd H p (.ins C dx [("day",.int m)]))
noncomputable def aoZ(K:FG)(C:Addr):Sp:=fun vs H Q _=>∃(p dx:Addr) (d l f:Int),vs=[.ref p,.int l,.int f]/\H p=some (.ins C dx [("day",.int d)])/\Ok3 d l f/\Q (.int (apE d l f)) H
noncomputable def ag4(K:FG)(C:Addr):Sp:=fun vs H Q _=>∃(p dx:Addr) (l f:Int),vs=[.ref p,.int l,.int f]/\H p=some (.ins C dx [])/\Ok3 l l f/\Q (.int (1*2^(nw l l f).toNat)) H
noncomputable def aeK(K:FG)(C:Addr):Sp:=fun vs H Q _=>∃(p dx:Addr) (m:Int),vs=[.ref p,.int m]/\H p=some (.ins C dx [])/\Q .non (upd H p (.ins C dx [("mask",.int m)]))
noncomputable def ag8(K:FG)(C:Addr):Sp:=fun vs H Q _=>∃(p dx:Addr) (m l f:Int),vs=[.ref p,.int l,.int f]/\H p=some (.ins C dx [("mask",.int m)])/\(0<=m/\m<=127)/\Lf l f/\Q (.int (wkD m l f)) H
noncomputable def ai7(K:FG)(C:Addr):Sp:=fun vs H Q _=>∃(p dx:Addr) (w m:Int),vs=[.ref p,.int w,.int m]/\H p=some (.ins C dx [])/\Q .non (upd (upd H p (.ins C dx (aaR "weekday" (.int w) []))) p (.ins C dx (ao7 w m)))
noncomputable def apG(K:FG)(C:Addr):Sp:=fun vs H Q _=>∃(p dx:Addr) (w m l f:Int),vs=[.ref p,.int l,.int f]/\H p=some (.ins C dx (ao7 w m))/\(0<=w/\w<=6)/\(1<=m/\m<=5)/\Lf l f/\Q (.int (aoM w m l f)) H
noncomputable def afB(K:FG)(C:Addr):Sp:=fun vs H Q _=>∃(p dx:Addr) (m:Int),vs=[.ref p,.int m]/\H p=some (.ins C dx [])/\Q .non (upd H p (.ins C dx [("weekday",.int m)]))
noncomputable def ai8(K:FG)(C:Addr):Sp:=fun vs H Q _=>∃(p dx:Addr) (w l f:Int),vs=[.ref p,.int l,.int f]/\H p=some (.ins C dx [("weekday",.int w)])/\(0<=w/\w<=6)/\Lf l f/\Q (.int (aBQ w l f)) H
noncomputable def aq2(K:FG)(aB aE aF aH aD aA aG aI:Addr):Sp:=fun vs H Q _=>∃(b:Addr) (ps:List Addr) (ks:List Mk) (l f:Int),vs=[.ref b,.int l,.int f]/\SqL K H b (ps.map V.ref)/\Ft (MkAt (⟨aB,aE,aF,aH,aD,aA,aG,aI⟩:Cs) H) ps ks/\(∀k∈ks,k.ok)/\Lf l f/\Q (.int (orK ks l f)) H
noncomputable def ahO(K:FG)(aB aE aF aH aD aA aG aI:Addr):Sp:=fun vs H Q _=>∃t:List Nat,vs=[.str (Tx t)]/\t.length<=300/\∀(v:V) (H':Hp),Same H H'->MkV (⟨aB,aE,aF,aH,aD,aA,aG,aI⟩:Cs) H' v (ac2 t)->Q v H'
noncomputable def ajG(K:FG):Sp:=fun vs H Q _=>∃t:List Nat,vs=[.str (Tx t)]/\t.length<=300/\∀H',Same H H'->Q (oV (wdN t)) H'
noncomputable def aeE(K:FG)(aB aE aF aH aD aA aG aI:Addr):Sp:=fun vs H Q _=>∃t:List Nat,vs=[.str (Tx t)]/\t.length<=300/\∀(v:V) (H':Hp),Same H H'->MkV (⟨aB,aE,aF,aH,aD,aA,aG,aI⟩:Cs) H' v (anP t)->Q v H'
noncomputable def al0(K:FG)(aB aE aF aH aD aA aG aI aO aP:Addr):Sp:=fun vs H Q _=>∃(l:List Nat) (lo hi:Int) (wk:Bool),vs=[.str (Tx l),.int lo,.int hi,.ref (if wk=true then aP else aO)]/\(0<=lo/\lo<=hi/\hi<=1000)/\ItemsOk wk lo hi l/\∀(p m:Addr) (qs:List Addr) (H':Hp),H m=none->Same H H'->H' p=some (.tup [.int (orM (plP lo hi (spl 44 l))),.ref m])->H' m=some (.lst (qs.map V.ref))->Ft (MkAt (⟨aB,aE,aF,aH,aD,aA,aG,aI⟩:Cs) H') qs (mkP wk lo hi (spl 44 l))->Q (.ref p) H'
noncomputable def anF(K:FG)(aB aE aF aH aD aA aG aI:Addr):Sp:=fun vs H Q _=>∃l:List Nat,vs=[.str (Tx l)]/\ItemsOk false 1 31 l/\(l=[42]->∀H',Same H H'->Q .non H')/\(l≠[42]->∀(m:Addr) (qs:List Addr) (H':Hp),H m=none->Same H H'->H' m=some (.lst (qs.map V.ref))->Ft (MkAt (⟨aB,aE,aF,aH,aD,aA,aG,aI⟩:Cs) H') qs (ajU false 1 31 l)->Q (.ref m) H')
noncomputable def ag9(K:FG)(aB aE aF aH aD aA aG aI:Addr):Sp:=fun vs H Q _=>∃l:List Nat,vs=[.str (Tx l)]/\ItemsOk true 0 7 l/\(l=[42]->∀H',Same H H'->Q .non H')/\(l≠[42]->∀(m:Addr) (qs:List Addr) (H':Hp),H m=none->Same H H'->H' m=some (.lst (qs.map V.ref))->Ft (MkAt (⟨aB,aE,aF,aH,aD,aA,aG,aI⟩:Cs) H') qs (ajU true 0 7 l)->Q (.ref m) H')
noncomputable def aq6(K:FG):Sp:=fun vs H Q _=>∃k:Int,vs=[.int k]/\(0<=k/\k<=90)/\∀(p:Addr) (H':Hp),Same H H'->H' p=some (.tup ((akS k).map V.int))->Q (.ref p) H'
noncomputable def apX(K:FG):Sp:=fun vs H Q _=>∃h m:Int,vs=[.int h,.int m]/\(0<=h/\h<2^24)/\(0<=m/\m<2^60)/\∀(t:Int) (H':Hp),t=tmF h m->Same H H'->Q (.int t) H'
noncomputable def asN(K:FG)(aB aE aF aH aD aA aG aI:Addr):Sp:=fun vs H Q _=>∃(dv wv:V) (kd kw:Option (List Mk)) (l f:Int),vs=[dv,wv,.int l,.int f]/\DV (⟨aB,aE,aF,aH,aD,aA,aG,aI⟩:Cs) H dv kd/\DV (⟨aB,aE,aF,aH,aD,aA,aG,aI⟩:Cs) H wv kw/\Lf l f/\∀H',Same H H'->Q (.int (abK kd kw l f)) H'
noncomputable def aiW(K:FG)(C:Addr):Sp:=fun vs H Q _=>∃(p dx fa:Addr) (m0 m1 m3:Int) (dv wv:V),vs=[.ref p,.ref fa]/\H p=some (.ins C dx [])/\H fa=some (.lst [.int m0,.int m1,dv,.int m3,wv])/\(0<=m0/\m0<2^60)/\(0<=m1/\m1<2^24)/\∀(tm:Int) (H':Hp),tm=tmF m1 m0->H' p=some (.ins C dx (abQ m0 m1 dv m3 wv tm))->(∀b o,H b=some o->b≠p->H' b=some o)->Q .non H'
noncomputable def ak8(K:FG)(C:Addr)(aB aE aF aH aD aA aG aI:Addr):Sp:=fun vs H Q _=>∃(p dx:Addr) (m0 m1 m3 tm k:Int) (dv wv:V) (kd kw:Option (List Mk)),vs=[.ref p,.int k]/\H p=some (.ins C dx (abQ m0 m1 dv m3 wv tm))/\(0<=k/\k<=90)/\0<=m3/\DV (⟨aB,aE,aF,aH,aD,aA,aG,aI⟩:Cs) H dv kd/\DV (⟨aB,aE,aF,aH,aD,aA,aG,aI⟩:Cs) H wv kw/\∀H',Same H H'->Q (.int (if tb m3 (mnA k).toNat=true then abK kd kw (lnA k) (k%7) else 0)) H'
noncomputable def an4(K:FG)(aB aE aF aH aD aA aG aI:Addr):Sp:=fun vs H Q _=>∃(t:List Nat) (pl:Int),vs=[.str (Tx t),.int pl]/\((pl=2/\∃ko,DT false t ko/\∀(v:V) (H':Hp),Same H H'->DV (⟨aB,aE,aF,aH,aD,aA,aG,aI⟩:Cs) H' v (gO false ko)->(∀p,v=.ref p->H p=none)->Q v H')∨(pl=4/\∃ko,DT true t ko/\∀(v:V) (H':Hp),Same H H'->DV (⟨aB,aE,aF,aH,aD,aA,aG,aI⟩:Cs) H' v (gO true ko)->(∀p,v=.ref p->H p=none)->Q v H')∨(∃lo hi m:Int,(pl=0/\lo=0/\hi=59∨pl=1/\lo=0/\hi=23∨pl=3/\lo=1/\hi=12)/\FT lo hi t m/\∀H',Same H H'->Q (.int m) H'))
noncomputable def arW(K:FG)(aB aE aF aH aD aA aG aI:Addr):Sp:=fun vs H Q _=>∃(t:List Nat) (pl:Int),vs=[.str (Tx t),.int pl]/\((pl=2/\∃ko,DT false t ko/\∀(v:V) (H':Hp),Same H H'->DV (⟨aB,aE,aF,aH,aD,aA,aG,aI⟩:Cs) H' v (gO false ko)->(∀p,v=.ref p->H p=none)->Q v H')∨(pl=4/\∃ko,DT true t ko/\∀(v:V) (H':Hp),Same H H'->DV (⟨aB,aE,aF,aH,aD,aA,aG,aI⟩:Cs) H' v (gO true ko)->(∀p,v=.ref p->H p=none)->Q v H')∨(∃lo hi m:Int,(pl=0/\lo=0/\hi=59∨pl=1/\lo=0/\hi=23∨pl=3/\lo=1/\hi=12)/\FT lo hi t m/\∀H',Same H H'->Q (.int m) H'))
noncomputable def aqE(K:FG)(aB aE aF aH aD aA aG aI aJ:Addr):Sp:=fun vs H Q _=>∃(w0 w1 w2 w3 w4:List Nat) (m0 m1 m3:Int) (kd kw:Option (List Mk)),vs=[.str (Tx (aa1 32 [w0,w1,w2,w3,w4]))]/\FT 0 59 w0 m0/\FT 0 23 w1 m1/\FT 1 12 w3 m3/\DT false w2 kd/\DT true w4 kw/\(m0<2^60/\m1<2^24)/\∀(x dx:Addr) (dv wv:V) (tm:Int) (H':Hp),tm=tmF m1 m0->Same H H'->H' x=some (.ins aJ dx (abQ m0 m1 dv m3 wv tm))->DV (⟨aB,aE,aF,aH,aD,aA,aG,aI⟩:Cs) H' dv (gO false kd)->DV (⟨aB,aE,aF,aH,aD,aA,aG,aI⟩:Cs) H' wv (gO true kw)->Q (.ref x) H'
noncomputable def akJ(K:FG)(C:Addr)(aB aE aF aH aD aA aG aI:Addr):Sp:=fun vs H Q _=>∃(p dx:Addr) (m0 m1 m3 tm mo:Int) (dv wv:V) (kd kw:Option (List Mk)),vs=[.ref p,.int mo]/\H p=some (.ins C dx (abQ m0 m1 dv m3 wv tm))/\(0<=m0/\0<=m1/\0<=m3)/\DV (⟨aB,aE,aF,aH,aD,aA,aG,aI⟩:Cs) H dv kd/\DV (⟨aB,aE,aF,aH,aD,aA,aG,aI⟩:Cs) H wv kw/\∀(y m k:Int) (H':Hp),OkD y m k->adI y m k=mo / 1440->Same H H'->Q (shK m0 m1 m3 kd kw (mo / 1440) (mo%1440) y m k) H'
noncomputable def aoP(K:FG)(C:Addr)(aB aE aF aH aD aA aG aI:Addr):Sp:=fun vs H Q _=>∃(p dx:Addr) (m0 m1 m3 tm mo:Int) (dv wv:V) (kd kw:Option (List Mk)),vs=[.ref p,.int mo]/\H p=some (.ins C dx (abQ m0 m1 dv m3 wv tm))/\(0<=m0/\0<=m1/\0<=m3)/\DV (⟨aB,aE,aF,aH,aD,aA,aG,aI⟩:Cs) H dv kd/\DV (⟨aB,aE,aF,aH,aD,aA,aG,aI⟩:Cs) H wv kw/\∀(y m k:Int) (H':Hp),OkD y m k->adI y m k=mo / 1440->Same H H'->Q (.bl (decide (shK m0 m1 m3 kd kw (mo / 1440) (mo%1440) y m k=.non))) H'
noncomputable def al1(K:FG):Sp:=fun vs H Q _=>∃N:Int,vs=[.int (N / 12),.int (N%12+1)]/\∀(t:Addr) (H':Hp),Same H H'->H' t=some (.tup [.int ((N+1) / 12),.int ((N+1)%12+1)])->Q (.ref t) H'
noncomputable def ai2(K:FG):Sp:=fun vs H Q _=>∃N:Int,vs=[.int (N / 12),.int (N%12+1)]/\∀(t:Addr) (H':Hp),Same H H'->H' t=some (.tup [.int ((N-1) / 12),.int ((N-1)%12+1)])->Q (.ref t) H'
noncomputable def aqZ(K:FG):Sp:=fun vs H Q _=>∃mo:Int,vs=[.int mo]/\∀(N:Int) (t:Addr) (H':Hp),Same H H'->1440*ag2 N<=mo->mo<1440*ag2 (N+1)->H' t=some (.tup [.int (N / 12),.int (N%12+1)])->Q (.ref t) H'
noncomputable def al2(K:FG):Sp:=fun vs H Q _=>∃(d:Addr) (ts:List Int),vs=[.ref d]/\SqL K H d (ts.map V.int)/\ts.length<=31/\(∀t∈ts,ah2 t)/\∀H',Same H H'->Q (.int (mnN (fun j=>ts.getD j 0) ts.length)) H'
noncomputable def avE(K:FG):Sp:=fun vs H Q _=>∃(m:Int) (k:Nat),vs=[.int m]/\0<m/\tb m k=true/\(∀j,j<k->tb m j=false)/\Q (.int k) H
noncomputable def ahF(K:FG)(aB aE aF aH aD aA aG aI aJ:Addr):Sp:=fun vs H Q _=>∃(tw:List Nat) (p dx:Addr) (m0 m1 m3 tm d:Int) (dv wv:V) (kd kw:Option (List Mk)),vs=[.ref p,.int d]/\H p=some (.ins aJ dx (abQ m0 m1 dv m3 wv tm))/\(0<=m0/\0<=m1/\0<=m3)/\DV (⟨aB,aE,aF,aH,aD,aA,aG,aI⟩:Cs) H dv kd/\DV (⟨aB,aE,aF,aH,aD,aA,aG,aI⟩:Cs) H wv kw/\awT m3 kd kw d tw/\∀(r:Int) (H':Hp),d<=r->(∀d',d<=d'->d'<=r->awT m3 kd kw d' tw)->Same H H'->Q (.int r) H'
noncomputable def apC(K:FG)(aB aE aF aH aD aA aG aI aJ:Addr):Sp:=fun vs H Q _=>∃(p dx:Addr) (tw:List Nat) (m0 m1 m3 tm d:Int) (dv wv:V) (kd kw:Option (List Mk)),vs=[.ref p,.int d,.str (Tx tw)]/\H p=some (.ins aJ dx (abQ m0 m1 dv m3 wv tm))/\(0<=m0/\0<=m1/\0<=m3)/\DV (⟨aB,aE,aF,aH,aD,aA,aG,aI⟩:Cs) H dv kd/\DV (⟨aB,aE,aF,aH,aD,aA,aG,aI⟩:Cs) H wv kw/\ak3 m0 m1 m3 kd kw d (.str (Tx tw))/\∀(r:Int) (H':Hp),d<=r->(tw≠[109,105,110,117,116,101]->(r+1)%60=0)->(∀t,d<=t->t<=r->ak3 m0 m1 m3 kd kw t (.str (Tx tw)))->Same H H'->Q (.int r) H'
noncomputable def alD(K:FG):Sp:=fun vs H Q _=>∃(p:Addr) (vs':List V) (sts:List TrX) (a b:Int) (tm:List Nat),vs=[.ref p,.int a,.int b,.str (Tx tm)]/\H p=some (.lst vs')/\Paired (TpX H) vs' sts/\vs'.length<=10000000/\∀H' us,H' p=some (.lst us)->Paired (TpX H') us (akB sts a b tm)->(∀q o,q≠p->H q=some o->H' q=some o)->Q .non H'
noncomputable def aqN(K:FG)(aB aE aF aH aD aA aG aI aJ:Addr):Sp:=fun vs H Q _=>∃(p:Addr) (b e m0 m1 m3:Int) (kd kw:Option (List Mk)),vs=[.ref p,.int b,.int e]/\RowR (⟨aB,aE,aF,aH,aD,aA,aG,aI⟩:Cs) aJ H p m0 m1 m3 kd kw/\(∀t,b<=t->t<=e->¬EvG (aaU (tmF m1 m0) m3 kd kw) t)/\e-b<=23000000/\∀l us sts H',H l=none->Same H H'->H' l=some (.lst us)->Paired (TpX H') us sts->(∀s∈sts,aqI m0 m1 m3 kd kw b e s)->us.length<=10000000->(e<b->us=[])->Q (.ref l) H'
noncomputable def aeO(K:FG)(C:Addr)(aB aE aF aH aD aA aG aI:Addr):Sp:=fun vs H Q _=>∃(p dx:Addr) (m0 m1 m3 tm k:Int) (dv wv:V) (kd kw:Option (List Mk)),vs=[.ref p,.int k]/\H p=some (.ins C dx (abQ m0 m1 dv m3 wv tm))/\(0<=k/\k<=90)/\0<=m3/\DV (⟨aB,aE,aF,aH,aD,aA,aG,aI⟩:Cs) H dv kd/\DV (⟨aB,aE,aF,aH,aD,aA,aG,aI⟩:Cs) H wv kw/\∀D H',Same H H'->H' D=some (.lst ((acL (aaU tm m3 kd kw) k).map V.int))->Q (.ref D) H'
noncomputable def al7(P:Program)(w:World)(mg:Str->Option Value)(base:Heap)(K:FG):Sp:=fun vs H Q _=>∃(kn f:Addr) (kd:Int) (kvs:List (Key×V)) (g:Int->Nat->Int) (H0:Hp),vs=[.ref kn,.ref f,.int kd]/\(0<=kd/\kd<=90)/\H kn=some (.dK kvs)/\av2 g kvs/\kvs.length<=1000/\GOk g/\H0 kn=none/\Same H0 H/\aoR P w K mg base 8 H0 f g/\∀kvs' H',H' kn=some (.dK kvs')->av2 g kvs'->kvs'.length<=kvs.length+1->(∀b o,b≠kn->H b=some o->H' b=some o)->Q (.int (wK g kd)) H'
noncomputable def apA(P:Program)(w:World)(mg:Str->Option Value)(base:Heap)(K:FG):Sp:=fun vs H Q _=>∃(f:Addr) (mo:Int) (g:Int->Nat->Int),vs=[.ref f,.int mo]/\GOk g/\aoR P w K mg base 8 H f g/\(∀e H',Same H H'->EvG g e->mo<=e->(∀t,mo<=t->t<e->¬EvG g t)->e-mo<=22000000->Q (.int e) H')/\(∀H',Same H H'->(∀t,¬EvG g t)->Q .non H')
noncomputable def apK(P:Program)(w:World)(mg:Str->Option Value)(base:Heap)(K:FG):Sp:=fun vs H Q _=>∃(f:Addr) (mo:Int) (g:Int->Nat->Int),vs=[.ref f,.int mo]/\GOk g/\aoR P w K mg base 8 H f g/\(∀e H',Same H H'->EvG g e->e<=mo->(∀t,e<t->t<=mo->¬EvG g t)->mo-e<=22000000->Q (.int e) H')/\(∀H',Same H H'->(∀t,¬EvG g t)->Q .non H')
noncomputable def anQ(K:FG)(aB aE aF aH aD aA aG aI aJ aK aL aM:Addr):Sp:=fun vs H Q _=>∃(p:Addr) (mo m0 m1 m3:Int) (kd kw:Option (List Mk)),vs=[.ref p,.int mo]/\RowR (⟨aB,aE,aF,aH,aD,aA,aG,aI⟩:Cs) aJ H p m0 m1 m3 kd kw/\aiS H aK aL aM/\∀t l us H' (v:V),SameN H H'->aiS H' aK aL aM->arQ H l->H' t=some (.tup [v,.ref l])->H' l=some (.lst us)->((∃e,v=.int e/\EvG (aaU (tmF m1 m0) m3 kd kw) e/\(mo<=e/\∀t,mo<=t->t<e->¬EvG (aaU (tmF m1 m0) m3 kd kw) t)/\(e=mo->us=[])/\us.length<=10000000/\∃sts,Paired (TpX H') us sts/\∀s∈sts,aqI m0 m1 m3 kd kw mo (e-1) s)∨(v=.non/\∀t,¬EvG (aaU (tmF m1 m0) m3 kd kw) t))->Q (.ref t) H'
noncomputable def arV(K:FG)(aB aE aF aH aD aA aG aI aJ aK aL aM:Addr):Sp:=fun vs H Q _=>∃(p:Addr) (mo m0 m1 m3:Int) (kd kw:Option (List Mk)),vs=[.ref p,.int mo]/\RowR (⟨aB,aE,aF,aH,aD,aA,aG,aI⟩:Cs) aJ H p m0 m1 m3 kd kw/\aiS H aK aL aM/\∀t l us H' (v:V),SameN H H'->aiS H' aK aL aM->arQ H l->H' t=some (.tup [v,.ref l])->H' l=some (.lst us)->((∃e,v=.int e/\EvG (aaU (tmF m1 m0) m3 kd kw) e/\(e<=mo/\∀t,e<t->t<=mo->¬EvG (aaU (tmF m1 m0) m3 kd kw) t)/\(e=mo->us=[])/\us.length<=10000000/\∃sts,Paired (TpX H') us sts/\∀s∈sts,aqI m0 m1 m3 kd kw (e+1) mo s)∨(v=.non/\∀t,¬EvG (aaU (tmF m1 m0) m3 kd kw) t))->Q (.ref t) H'
noncomputable def ai0(K:FG):Sp:=fun vs H Q _=>∃(a:Addr) (k:Int),vs=[.ref a,.int k]/\(∃ns:List Int,SqL K H a (ns.map V.int))/\(0<=k/\k<1000)/\∀c:Int,Q (.int c) H
noncomputable def anW(K:FG):Sp:=fun vs H Q _=>∃n:Int,vs=[.int n]/\∀r:Int,0<=r->r<2147483629->Q (.int r) H
noncomputable def alE(K:FG):Sp:=fun vs H Q _=>∃(c:Int) (a:Addr) (b:Bool) (ss:List Int),vs=[.int c,.ref a,.bl b]/\SqL K H a (ss.map V.int)/\(∀z∈ss,0<z/\z<1073741824)/\ss.length<=63/\∀(ds:List Int) (p:Addr) (H':Hp),Same H H'->H' p=some (.lst (ds.map V.int))->Digs ds ss->Q (.ref p) H'
noncomputable def anB(K:FG):Sp:=fun vs H Q _=>∃(p:Addr) (fm fi la st lo hi:Int),vs=[.ref p,.int lo,.int hi]/\SqL K H p [.int fm,.int fi,.int la,.int st]/\(0<=lo/\lo<=hi/\hi<=63)/\∀(t u:Addr) (tw:List Nat) (ns:List Int) (H':Hp),Same H H'->H' t=some (.tup [.str (Tx tw),.ref u])->H' u=some (.lst (ns.map V.int))->adP lo hi tw ns->Asc tw->Q (.ref t) H'
noncomputable def aiT(K:FG):Sp:=fun vs H Q _=>∃(c lo hi:Int) (bm:Bool),vs=[.int c,.int lo,.int hi,.bl bm]/\(0<=lo/\lo<hi/\hi<=62)/\∀(t N:Addr) (tw:List Nat) (ns:List Int) (H':Hp),Same H H'->H' t=some (.tup [.str (Tx tw),.ref N])->H' N=some (.lst (ns.map V.int))->(∀n∈ns,lo<=n/\n<=hi)->ns≠[]->ns.length<=200->FT lo hi tw (abA ns)->Q (.ref t) H'
noncomputable def anN(K:FG):Sp:=fun vs H Q _=>∃(c:Int) (bm:Bool),vs=[.int c,.bl bm]/\∀(t:Addr) (tw:List Nat) (v:V) (ko:Option (List Mk)) (H':Hp),Same H H'->H' t=some (.tup [.str (Tx tw),v])->DT false tw ko->Q (.ref t) H'
noncomputable def ah1(K:FG):Sp:=fun vs H Q _=>∃(c:Int) (bm:Bool),vs=[.int c,.bl bm]/\∀(t:Addr) (tw:List Nat) (v:V) (ko:Option (List Mk)) (H':Hp),Same H H'->H' t=some (.tup [.str (Tx tw),v])->DT true tw ko->Q (.ref t) H'
noncomputable def anK(K:FG):Sp:=fun vs H Q _=>∃(a:Addr) (c0 c1 c2 c3 c4:Int) (bm:Bool),vs=[.ref a,.bl bm]/\SqL K H a [.int c0,.int c1,.int c2,.int c3,.int c4]/\∀(t:Addr) (w0 w1 w2 w3 w4:List Nat) (m0 m1 m3:Int) (v1 v2 v3 v4 v5:V) (kd kw:Option (List Mk)) (H':Hp),Same H H'->H' t=some (.tup [.str (Tx (aa1 32 [w0,w1,w2,w3,w4])),v1,v2,v3,v4,v5])->FT 0 59 w0 m0->FT 0 23 w1 m1->FT 1 12 w3 m3->DT false w2 kd->DT true w4 kw->(m0<2^60/\m1<2^24)->Q (.ref t) H'
noncomputable def alP(K:FG):Sp:=fun vs H Q _=>∃y:Int,vs=[.int y]/\∀z:Int,Q (.int z) H
noncomputable def akM(K:FG):Sp:=fun vs H Q _=>∃(c:Int) (bm:Bool),vs=[.int c,.bl bm]/\∀(mo:Int) (H':Hp),Same H H'->Q (.int mo) H'
noncomputable def ajC(K:FG)(aB aE aF aH aD aA aG aI aJ:Addr):Sp:=fun vs H Q _=>∃(p t l:Addr) (e c lo hi m0 m1 m3:Int) (kd kw:Option (List Mk)) (us:List V) (sts:List TrX),vs=[.ref p,.ref t,.int c]/\RowR (⟨aB,aE,aF,aH,aD,aA,aG,aI⟩:Cs) aJ H p m0 m1 m3 kd kw/\H t=some (.tup [.int e,.ref l])/\H l=some (.lst us)/\us.length<=10000000/\Paired (TpX H) us sts/\(∀s∈sts,aqI m0 m1 m3 kd kw lo hi s)/\EvG (aaU (tmF m1 m0) m3 kd kw) e/\∀(r:Int) (H':Hp),Same H H'->(r=e∨(lo<=r/\r<=hi))->Q (.int r) H'
noncomputable def alI(K:FG)(aB aE aF aH aD aA aG aI aJ aK aL aM:Addr):Sp:=fun vs H Q _=>∃(p:Addr) (mo x6 x7 m0 m1 m3:Int) (kd kw:Option (List Mk)),vs=[.ref p,.int mo,.int x6,.int x7]/\RowR (⟨aB,aE,aF,aH,aD,aA,aG,aI⟩:Cs) aJ H p m0 m1 m3 kd kw/\aiS H aK aL aM/\∀H',SameN H H'->aiS H' aK aL aM->Q (.bl true) H'
noncomputable def aoJ(K:FG)(aK aL aM:Addr):Sp:=fun vs H Q _=>∃(a:Addr) (ns:List Int),vs=[.ref a]/\SqL K H a (ns.map V.int)/\ns.length<=63/\aiS H aK aL aM/\∀H',Q (.bl true) H'
theorem md_Last___init__{K:FG}{C f T:Addr}{od an tod:Option Addr}{sl tsl:Array (Option Value)}{oc kV dc pm cd ct:Value}{tn:Nat}{t0:Tok}(a:PySem.W.findIn K (.ref C) "__init__"=some (some (.ref f)))(i:PySem.W.isFn K (.ref f)=true)(l:K.lookup f=some ⟨oc,od,.func (PySem.W.fnOf "__init__" "Last.__init__" (aa0 aa2) (aaS aa2) (aaC aa2) (.ref T) kV dc pm an cd ct),sl⟩)(c:PySem.W.codeIn K cd "Last.__init__"=true)(k:PySem.W.keepIn K (.ref f)=true)(lt:K.lookup T=some ⟨.type "tuple",tod,.seq #[.int 0 t0] tn,tsl⟩):FnMD K C "__init__" "Last.__init__" aa2 ["self","back"] [.int 0]:=
 aAA (ds:=[.int 0 t0]) a i l c k (fun s us X hl=>match us,(show us.length=2 by simpa using hl) with | [_,_],_=>PySem.W.binds_K X rfl lt rfl rfl rfl) (.cons ⟨_,rfl⟩ .nil) (fun s us X hl=>match us,(show us.length=1 by simpa using hl) with | [_],_=>PySem.W.binds_K X rfl lt rfl rfl rfl)
theorem q_MONTH_LASTS{K:FG}{a:Addr}{od:Option Addr}{sl:Array (Option Value)}{n:Nat}{t0 t1 t2 t3 t4 t5 t6 t7 t8 t9 t10 t11:Tok}(l:K.lookup a=some ⟨.type "tuple",od,.seq #[.int 31 t0,.int 28 t1,.int 31 t2,.int 30 t3,.int 31 t4,.int 30 t5,.int 31 t6,.int 31 t7,.int 30 t8,.int 31 t9,.int 30 t10,.int 31 t11] n,sl⟩):∀H,SqT K H a (([31,28,31,30,31,30,31,31,30,31,30,31]:List Int).map V.int):=fun H=>.inr ⟨_,_,_,l,rfl,rfl,(zL 12),(.cons ⟨_,rfl⟩ (.cons ⟨_,rfl⟩ (.cons ⟨_,rfl⟩ (.cons ⟨_,rfl⟩ (.cons ⟨_,rfl⟩ (.cons ⟨_,rfl⟩ (.cons ⟨_,rfl⟩ (.cons ⟨_,rfl⟩ (.cons ⟨_,rfl⟩ (.cons ⟨_,rfl⟩ (.cons ⟨_,rfl⟩ (.cons ⟨_,rfl⟩ .nil))))))))))))⟩
theorem q_BOUNDS{K:FG}{a b0 b1 b3:Addr}{ep:Nat}{t0 t1 t3:Tok}(l:K.lookup a=some ⟨.type "dict",none,.dict #[⟨0,.int 0 t0,.ref b0⟩,⟨1,.int 1 t1,.ref b1⟩,⟨3,.int 3 t3,.ref b3⟩] ep,#[]⟩):KD K a [(0,.ref b0),(1,.ref b1),(3,.ref b3)]:=by
 refine⟨_,ep,[(.inl 0,.ref b0),(.inl 1,.ref b1),(.inl 3,.ref b3)],l,(.cons ⟨rfl,rfl⟩ (.cons ⟨rfl,rfl⟩ (.cons ⟨rfl,rfl⟩ .nil))),(show ([.inl 0,.inl 1,.inl 3]:List Key).Nodup by decide),fun P w=>⟨?_,(.cons rfl rfl (.cons rfl rfl (.cons rfl rfl .nil)))⟩⟩
 intro e he
 simp only[Array.mem_toArray,bB,List.not_mem_nil,or_false] at he
 rcases he with rfl | rfl | rfl
 ·exact⟨.inl 0,rfl,rfl⟩
 ·exact⟨.inl 1,rfl,rfl⟩
 ·exact⟨.inl 3,rfl,rfl⟩
theorem q_BOUNDS_0{K:FG}{a:Addr}{od:Option Addr}{sl:Array (Option Value)}{n:Nat}{t0 t1:Tok}(l:K.lookup a=some ⟨.type "tuple",od,.seq #[.int 0 t0,.int 59 t1] n,sl⟩):∀H,SqT K H a (([0,59]:List Int).map V.int):=fun H=>.inr ⟨_,_,_,l,rfl,rfl,(zL 2),(.cons ⟨_,rfl⟩ (.cons ⟨_,rfl⟩ .nil))⟩
theorem q_BOUNDS_1{K:FG}{a:Addr}{od:Option Addr}{sl:Array (Option Value)}{n:Nat}{t0 t1:Tok}(l:K.lookup a=some ⟨.type "tuple",od,.seq #[.int 0 t0,.int 23 t1] n,sl⟩):∀H,SqT K H a (([0,23]:List Int).map V.int):=fun H=>.inr ⟨_,_,_,l,rfl,rfl,(zL 2),(.cons ⟨_,rfl⟩ (.cons ⟨_,rfl⟩ .nil))⟩
theorem q_BOUNDS_3{K:FG}{a:Addr}{od:Option Addr}{sl:Array (Option Value)}{n:Nat}{t0 t1:Tok}(l:K.lookup a=some ⟨.type "tuple",od,.seq #[.int 1 t0,.int 12 t1] n,sl⟩):∀H,SqT K H a (([1,12]:List Int).map V.int):=fun H=>.inr ⟨_,_,_,l,rfl,rfl,(zL 2),(.cons ⟨_,rfl⟩ (.cons ⟨_,rfl⟩ .nil))⟩
theorem mg_tx{K:FG}{h:Heap}{mg:Str->Option Value}{x n:Str}{l:List Nat}{t:Tok}(X:K.In h)(G:h.Ns mainGlobals mg)(e:x=Tx l)(a:PySem.W.nsIn K mainGlobals n=some (some (.str x t))):mg n=some (.str (Tx l) t):=e▸PySem.W.mg_of X G a
theorem as8:FnScope ["year"] ["year"] (aaC amB):=fsc
theorem afC:FnScope ["year","step"] ["year","step"] (aaC acA):=fsc
theorem sc_days_before:FnScope ["year","longs"] ["year"] (aaC afI):=fsc
theorem asK:FnScope ["year","month"] ["year","month"] (aaC amF):=fsc
theorem aqO:FnScope ["thing"] ["thing"] (aaC alB):=fsc
theorem arM:FnScope ["year","month","day"] ["year","month","day"] (aaC amQ):=fsc
theorem sc_day_of:FnScope ["year","month","day","ahead"] ["year","month","day"] (aaC arG):=fsc
theorem sc_year_of:FnScope ["day","year"] ["day"] (aaC amX):=fsc
theorem sc_date_of:FnScope ["day","year","month","rest"] ["day"] (aaC amS):=fsc
theorem arP:FnScope ["day"] ["day"] (aaC amL):=fsc
theorem sc_kind_from:FnScope ["year","month","day","place"] ["year","month","day"] (aaC aiF):=fsc
theorem asW:FnScope ["year","month"] ["year","month"] (aaC am3):=fsc
theorem sc_parted:FnScope ["moment","time"] ["moment"] (aaC ap8):=fsc
theorem aj2:FnScope ["text"] ["text"] (aaC afG):=fsc
theorem alS:FnScope ["text"] ["text"] (aaC agP):=fsc
theorem aEL:FnScope ["mask","number"] ["mask","number"] (aaC aBH):=fsc
theorem sc_mask_of:FnScope ["numbers","mask","number"] ["numbers"] (aaC amV):=fsc
theorem alQ:FnScope ["mask"] ["mask"] (aaC agB):=fsc
theorem arD:FnScope ["first","last","stride"] ["first","last","stride"] (aaC ak2):=fsc
theorem sc_read_number:FnScope ["text","low","high","number"] ["text","low","high"] (aaC afT):=fsc
theorem sc_read_run:FnScope ["text","low","high","ends"] ["text","low","high"] (aaC akW):=fsc
theorem sc_read_strided:FnScope ["run_text","stride_text","low","high","run","stride","last"] ["run_text","stride_text","low","high"] (aaC aeY):=fsc
theorem sc_read_item:FnScope ["item","low","high","parts","run"] ["item","low","high"] (aaC ah6):=fsc
theorem sc_read_field:FnScope ["text","low","high","items","mask","place","item","told"] ["text","low","high"] (aaC agX):=fsc
theorem al9:FnScope ["day","first"] ["day","first"] (aaC agM):=fsc
theorem apL:FnScope ["last"] ["last"] (aaC akA):=fsc
theorem sc_nearest_work:FnScope ["day","last","first","of_week"] ["day","last","first"] (aaC aeU):=fsc
theorem anJ:FnScope ["weekday","first"] ["weekday","first"] (aaC aiA):=fsc
theorem aoB:FnScope ["self","last","first"] ["self","last","first"] (aaC aiH):=fsc
theorem ae9:FnScope ["self","mask"] ["self","mask"] (aaC acD):=fsc
theorem aiZ:FnScope ["self","last","first"] ["self","last","first"] (aaC ad7):=fsc
theorem ahV:FnScope ["self","back"] ["self","back"] (aaC aa2):=fsc
theorem anU:FnScope ["self","last","first"] ["self","last","first"] (aaC aiQ):=fsc
theorem ahP:FnScope ["self","day"] ["self","day"] (aaC adY):=fsc
theorem anM:FnScope ["self","last","first"] ["self","last","first"] (aaC ah9):=fsc
theorem ahD:FnScope ["self","last","first"] ["self","last","first"] (aaC adW):=fsc
theorem aeR:FnScope ["self","mask"] ["self","mask"] (aaC ab4):=fsc
theorem sc_Weekdays_days:FnScope ["self","last","first","weeks","week"] ["self","last","first"] (aaC adX):=fsc
theorem ajF:FnScope ["self","weekday","many"] ["self","weekday","many"] (aaC aeX):=fsc
theorem sc_Nth_days:FnScope ["self","last","first","day"] ["self","last","first"] (aaC akH):=fsc
theorem afA:FnScope ["self","weekday"] ["self","weekday"] (aaC acB):=fsc
theorem ai5:FnScope ["self","last","first"] ["self","last","first"] (aaC aeA):=fsc
theorem sc_any_days:FnScope ["marks","last","first","mask","mark"] ["marks","last","first"] (aaC akD):=fsc
theorem sc_read_day_mark:FnScope ["item","back","day"] ["item"] (aaC adQ):=fsc
theorem sc_read_weekday:FnScope ["text","number"] ["text"] (aaC aeP):=fsc
theorem sc_read_weekday_mark:FnScope ["item","weekday","parts","many"] ["item"] (aaC ab2):=fsc
theorem sc_read_items:FnScope ["text","low","high","read_mark","items","mask","marks","place","item","plain","mark"] ["text","low","high","read_mark"] (aaC agI):=fsc
theorem sc_read_days:FnScope ["text","read"] ["text"] (aaC aiO):=fsc
theorem sc_read_weekdays:FnScope ["text","read","mask"] ["text"] (aaC adO):=fsc
theorem sc_month_at:FnScope ["kind","place","first"] ["kind"] (aaC akL):=fsc
theorem sc_times_of:FnScope ["hours","minutes","times","hour"] ["hours","minutes"] (aaC akF):=fsc
theorem sc_days_by:FnScope ["days","weekdays","last","first","mask","marks"] ["days","weekdays","last","first"] (aaC am9):=fsc
theorem ajA:FnScope ["self","fields"] ["self","fields"] (aaC aeL):=fsc
theorem sc_Row_days_in:FnScope ["self","kind","month"] ["self","kind"] (aaC afD):=fsc
theorem sc_read_word:FnScope ["word","place","bounds"] ["word","place"] (aaC ah4):=fsc
theorem arK:FnScope ["word","place"] ["word","place"] (aaC am0):=fsc
theorem sc_read_row:FnScope ["text","words"] ["text"] (aaC akO):=fsc
theorem sc_Row_shut_by:FnScope ["self","moment","parts","date"] ["self","moment"] (aaC afH):=fsc
theorem anZ:FnScope ["self","moment"] ["self","moment"] (aaC aiC):=fsc
theorem al8:FnScope ["year","month"] ["year","month"] (aaC agG):=fsc
theorem ajH:FnScope ["year","month"] ["year","month"] (aaC ad6):=fsc
theorem sc_month_of:FnScope ["moment","date"] ["moment"] (aaC aj7):=fsc
theorem sc_minutes_on:FnScope ["days","minutes","place","times"] ["days"] (aaC agQ):=fsc
theorem avG:FnScope ["mask"] ["mask"] (aaC aqL):=fsc
theorem sc_last_shut_day:FnScope ["row","day","date","kind","later"] ["row","day"] (aaC ad1):=fsc
theorem aq7:FnScope ["row","moment","word"] ["row","moment","word"] (aaC akI):=fsc
theorem akC:FnScope ["stretches","first","last","told"] ["stretches","first","last","told"] (aaC afR):=fsc
theorem sc_paper_of:FnScope ["row","begin","end","stretches","moment","word","last"] ["row","begin","end"] (aaC aj8):=fsc
theorem sc_Row_on_days:FnScope ["self","kind","days","last"] ["self","kind"] (aaC afQ):=fsc
theorem alM:FnScope ["known","on_days","kind"] ["known","on_days","kind"] (aaC agZ):=fsc
theorem sc_first_at:FnScope ["on_days","moment","month","known","turn","start","passed","rest"] ["on_days","moment"] (aaC ajX):=fsc
theorem sc_final_at:FnScope ["on_days","moment","month","known","turn","start","latest","rest"] ["on_days","moment"] (aaC aj5):=fsc
theorem sc_next_from:FnScope ["row","moment","found"] ["row","moment"] (aaC aiD):=fsc
theorem sc_last_to:FnScope ["row","moment","found"] ["row","moment"] (aaC amU):=fsc
theorem ajB:FnScope ["_law_script","_law_k"] ["_law_script","_law_k"] (aaC aeC):=fsc
theorem sc__law_stir:FnScope ["_law_number","_law_first","_law_second"] ["_law_number"] (aaC ah5):=fsc
theorem sc__law_digits:FnScope ["_law_cell","_law_sizes","_law_mixed","_law_found","_law_size"] ["_law_cell","_law_sizes","_law_mixed"] (aaC afK):=fsc
theorem sc__law_item:FnScope ["_law_parts","_law_low","_law_high","_law_form","_law_one","_law_later","_law_by"] ["_law_parts","_law_low","_law_high"] (aaC aiP):=fsc
theorem sc__law_numbers:FnScope ["_law_cell","_law_low","_law_high","_law_mixed","_law_size","_law_drawn","_law_texts","_law_numbers_here","_law_k","_law_text","_law_some"] ["_law_cell","_law_low","_law_high","_law_mixed"] (aaC aeN):=fsc
theorem sc__law_days:FnScope ["_law_cell","_law_mixed","_law_drawn","_law_texts","_law_marks","_law_k","_law_sort","_law_form","_law_one","_law_later","_law_by","_law_text","_law_some","_law_mark"] ["_law_cell","_law_mixed"] (aaC ah8):=fsc
theorem sc__law_weekdays:FnScope ["_law_cell","_law_mixed","_law_drawn","_law_texts","_law_marks","_law_k","_law_sort","_law_form","_law_one","_law_later","_law_by","_law_text","_law_some","_law_mark"] ["_law_cell","_law_mixed"] (aaC adR):=fsc
theorem sc__law_spec:FnScope ["_law_cells","_law_mixed","_law_minutes","_law_hours","_law_days_here","_law_months","_law_weekdays_here","_law_rare","_law_text"] ["_law_cells","_law_mixed"] (aaC aiL):=fsc
theorem alU:FnScope ["_law_year"] ["_law_year"] (aaC agN):=fsc
theorem sc__law_moment:FnScope ["_law_cell","_law_mixed","_law_drawn","_law_year","_law_number"] ["_law_cell","_law_mixed"] (aaC afM):=fsc
theorem sc__law_between:FnScope ["_law_row","_law_told","_law_cell","_law_found","_law_paper","_law_first","_law_last","_law_word","_law_here"] ["_law_row","_law_told","_law_cell"] (aaC ad4):=fsc
theorem sc__law_right:FnScope ["_law_row","_law_moment_here","_law_one","_law_other","_law_told","_law_here"] ["_law_row","_law_moment_here","_law_one","_law_other"] (aaC agY):=fsc
theorem sc_law:FnScope ["_law_script","_law_mixed","_law_k","_law_cells","_law_spec_here","_law_moment_here"] ["_law_script"] (aaC amE):=fsc
structure Fs(K:FG)(mg:Str->Option Value)(aI aB aE aF aH aD aA aG aJ aP aO aQ aK aR aL aM a_MONTH_LASTS a_BOUNDS a_BOUNDS_0 a_BOUNDS_1 a_BOUNDS_3:Addr)(t_ROUND_DAYS t_ROUND_YEARS t_LONG_PLACE t_DAY_MINUTES t_HOUR_MINUTES t_FIGURES t_MOST_STRIDE t_MOST_SIGNS t_MOST_ITEMS t_SATURDAY t_SUNDAY t_MOST_BACK t_MOST_DAY t_SUNDAY_TOO t_MOST_NTH t_MOST_MARKS t_ALL_WEEKDAYS t_LONG_LAST t_SHORT_YEAR t_MINUTE t_HOUR t_DAY t_MONTH t_WEEKDAY t_MOST_ROW_SIGNS t_NO_PLACE t_MOST_MONTHS t_MOST_MONTH_MINUTES:Tok):Prop where
 en:Cd K mg "Mark" aI
 eu:PySem.W.findIn K (.ref aI) "__init__"=some (some (.builtin "object.__init__"))
 aq:Cd K mg "Numbers" aB
 a4:PySem.W.findIn K (.ref aB) "mask"=some none
 ar:Cd K mg "Last" aE
 aw:PySem.W.findIn K (.ref aE) "back"=some none
 ax:Cd K mg "Near" aF
 ay:PySem.W.findIn K (.ref aF) "day"=some none
 bc:Cd K mg "LastWork" aH
 dh:PySem.W.findIn K (.ref aH) "__init__"=some (some (.builtin "object.__init__"))
 an:Cd K mg "Weekdays" aD
 az:PySem.W.findIn K (.ref aD) "mask"=some none
 a0:Cd K mg "Nth" aA
 a5:PySem.W.findIn K (.ref aA) "weekday"=some none
 bd:PySem.W.findIn K (.ref aA) "many"=some none
 as:Cd K mg "LastOne" aG
 av:PySem.W.findIn K (.ref aG) "weekday"=some none
 aa:Cd K mg "Row" aJ
 ah:PySem.W.findIn K (.ref aJ) "minute_mask"=some none
 al:PySem.W.findIn K (.ref aJ) "hour_mask"=some none
 a1:PySem.W.findIn K (.ref aJ) "day_marks"=some none
 ai:PySem.W.findIn K (.ref aJ) "month_mask"=some none
 ao:PySem.W.findIn K (.ref aJ) "weekday_marks"=some none
 a2:PySem.W.findIn K (.ref aJ) "time_mask"=some none
 ap:mg "read_weekday_mark"=some (.ref aP)
 a3:mg "read_day_mark"=some (.ref aO)
 cc:mg "MONTH_LASTS"=some (.ref a_MONTH_LASTS)
 a6:∀H,SqT K H a_MONTH_LASTS (([31,28,31,30,31,30,31,31,30,31,30,31]:List Int).map V.int)
 a8:mg "ROUND_DAYS"=some (.int 146097 t_ROUND_DAYS)
 cd:mg "ROUND_YEARS"=some (.int 400 t_ROUND_YEARS)
 a9:mg "LONG_PLACE"=some (.int 12 t_LONG_PLACE)
 ac:mg "DAY_MINUTES"=some (.int 1440 t_DAY_MINUTES)
 ae:mg "HOUR_MINUTES"=some (.int 60 t_HOUR_MINUTES)
 d5:mg "FIGURES"=some (.str (Tx [48,49,50,51,52,53,54,55,56,57]) t_FIGURES)
 ce:mg "MOST_STRIDE"=some (.int 99 t_MOST_STRIDE)
 ba:mg "MOST_SIGNS"=some (.int 300 t_MOST_SIGNS)
 aj:mg "MOST_ITEMS"=some (.int 40 t_MOST_ITEMS)
 di:mg "SATURDAY"=some (.int 6 t_SATURDAY)
 bp:mg "SUNDAY"=some (.int 0 t_SUNDAY)
 c1:mg "MOST_BACK"=some (.int 30 t_MOST_BACK)
 be:mg "MOST_DAY"=some (.int 31 t_MOST_DAY)
 ak:mg "SUNDAY_TOO"=some (.int 7 t_SUNDAY_TOO)
 dj:mg "MOST_NTH"=some (.int 5 t_MOST_NTH)
 co:mg "MOST_MARKS"=some (.int 20 t_MOST_MARKS)
 b0:mg "ALL_WEEKDAYS"=some (.int 127 t_ALL_WEEKDAYS)
 c2:mg "LONG_LAST"=some (.int 29 t_LONG_LAST)
 cp:mg "SHORT_YEAR"=some (.int 1 t_SHORT_YEAR)
 eh:mg "MINUTE"=some (.int 0 t_MINUTE)
 eo:mg "HOUR"=some (.int 1 t_HOUR)
 dk:mg "DAY"=some (.int 2 t_DAY)
 em:mg "MONTH"=some (.int 3 t_MONTH)
 bl:mg "WEEKDAY"=some (.int 4 t_WEEKDAY)
 ei:mg "BOUNDS"=some (.ref a_BOUNDS)
 bb:KD K a_BOUNDS [(0,.ref a_BOUNDS_0),(1,.ref a_BOUNDS_1),(3,.ref a_BOUNDS_3)]
 bf:∀H,SqT K H a_BOUNDS_0 (([0,59]:List Int).map V.int)
 bg:∀H,SqT K H a_BOUNDS_1 (([0,23]:List Int).map V.int)
 bh:∀H,SqT K H a_BOUNDS_3 (([1,12]:List Int).map V.int)
 bq:mg "MOST_ROW_SIGNS"=some (.int 1600 t_MOST_ROW_SIGNS)
 dl:mg "NO_PLACE"=some (.int 5 t_NO_PLACE)
 a7:mg "MOST_MONTHS"=some (.int 492 t_MOST_MONTHS)
 bi:mg "MOST_MONTH_MINUTES"=some (.int 44640 t_MOST_MONTH_MINUTES)
 cq:Host K mg aQ aK aM
 dm:Host K mg aR aL aM
 dn:mg "int"=none
 af:mg "isinstance"=none
 ep:mg "bool"=none
 ab:mg "range"=none
 eq:mg "sum"=none
 er:mg "all"=none
 au:mg "list"=none
 ag:mg "len"=none
 ad:mg "str"=none
 am:mg "enumerate"=none
 dp:mg "min"=none
 es:mg "max"=none
 dq:mg "abs"=none
 d6:Fn K mg "is_long" amB ["year"]
 bm:Fn K mg "multiples_before" acA ["year","step"]
 cf:Fn K mg "days_before" afI ["year"]
 d7:Fn K mg "last_of" amF ["year","month"]
 dr:Fn K mg "is_whole" alB ["thing"]
 d8:Fn K mg "is_date" amQ ["year","month","day"]
 ej:Fn K mg "day_of" arG ["year","month","day"]
 d9:Fn K mg "year_of" amX ["day"]
 ea:Fn K mg "date_of" amS ["day"]
 eb:Fn K mg "weekday" amL ["day"]
 c3:Fn K mg "kind_from" aiF ["year","month","day"]
 ec:Fn K mg "kind_of" am3 ["year","month"]
 ek:Fn K mg "parted" ap8 ["moment"]
 cg:Fn K mg "all_figures" afG ["text"]
 cr:Fn K mg "is_written" agP ["text"]
 et:Fn K mg "has" aBH ["mask","number"]
 ed:Fn K mg "mask_of" amV ["numbers"]
 cs:Fn K mg "numbers_in" agB ["mask"]
 ds:Fn K mg "run_mask" ak2 ["first","last","stride"]
 ch:Fn K mg "read_number" afT ["text","low","high"]
 dt:Fn K mg "read_run" akW ["text","low","high"]
 b1:Fn K mg "read_strided" aeY ["run_text","stride_text","low","high"]
 c4:Fn K mg "read_item" ah6 ["item","low","high"]
 ct:Fn K mg "read_field" agX ["text","low","high"]
 cu:Fn K mg "weekday_at" agM ["day","first"]
 du:Fn K mg "all_days" akA ["last"]
 b2:Fn K mg "nearest_work" aeU ["day","last","first"]
 c5:Fn K mg "first_one" aiA ["weekday","first"]
 c6:FnM K aI "days" "Mark.days" aiH ["self","last","first"]
 bn:FnM K aB "__init__" "Numbers.__init__" acD ["self","mask"]
 b3:FnM K aB "days" "Numbers.days" ad7 ["self","last","first"]
 br:FnMD K aE "__init__" "Last.__init__" aa2 ["self","back"] [.int 0]
 c7:FnM K aE "days" "Last.days" aiQ ["self","last","first"]
 bs:FnM K aF "__init__" "Near.__init__" adY ["self","day"]
 c8:FnM K aF "days" "Near.days" ah9 ["self","last","first"]
 bt:FnM K aH "days" "LastWork.days" adW ["self","last","first"]
 bj:FnM K aD "__init__" "Weekdays.__init__" ab4 ["self","mask"]
 bu:FnM K aD "days" "Weekdays.days" adX ["self","last","first"]
 b4:FnM K aA "__init__" "Nth.__init__" aeX ["self","weekday","many"]
 dv:FnM K aA "days" "Nth.days" akH ["self","last","first"]
 bo:FnM K aG "__init__" "LastOne.__init__" acB ["self","weekday"]
 b5:FnM K aG "days" "LastOne.days" aeA ["self","last","first"]
 dw:Fn K mg "any_days" akD ["marks","last","first"]
 bv:Fn K mg "read_day_mark" adQ ["item"]
 b6:Fn K mg "read_weekday" aeP ["text"]
 bk:Fn K mg "read_weekday_mark" ab2 ["item"]
 cv:Fn K mg "read_items" agI ["text","low","high","read_mark"]
 c9:Fn K mg "read_days" aiO ["text"]
 bw:Fn K mg "read_weekdays" adO ["text"]
 dx:Fn K mg "month_at" akL ["kind"]
 dy:Fn K mg "times_of" akF ["hours","minutes"]
 ee:Fn K mg "days_by" am9 ["days","weekdays","last","first"]
 b7:FnM K aJ "__init__" "Row.__init__" aeL ["self","fields"]
 ci:FnM K aJ "days_in" "Row.days_in" afD ["self","kind"]
 da:Fn K mg "read_word" ah4 ["word","place"]
 ef:Fn K mg "read_at" am0 ["word","place"]
 dz:Fn K mg "read_row" akO ["text"]
 cj:FnM K aJ "shut_by" "Row.shut_by" afH ["self","moment"]
 db:FnM K aJ "holds" "Row.holds" aiC ["self","moment"]
 cw:Fn K mg "next_month" agG ["year","month"]
 b8:Fn K mg "month_before" ad6 ["year","month"]
 d0:Fn K mg "month_of" aj7 ["moment"]
 cx:Fn K mg "minutes_on" agQ ["days"]
 el:Fn K mg "lowest" aqL ["mask"]
 bx:Fn K mg "last_shut_day" ad1 ["row","day"]
 d1:Fn K mg "shut_end" akI ["row","moment","word"]
 ck:Fn K mg "add_stretch" afR ["stretches","first","last","told"]
 d2:Fn K mg "paper_of" aj8 ["row","begin","end"]
 cl:FnM K aJ "on_days" "Row.on_days" afQ ["self","kind"]
 cy:Fn K mg "minutes_by" agZ ["known","on_days","kind"]
 d3:Fn K mg "first_at" ajX ["on_days","moment"]
 d4:Fn K mg "final_at" aj5 ["on_days","moment"]
 dc:FnC K mg "next_from" aiD ["row","moment"] aQ
 eg:FnC K mg "last_to" amU ["row","moment"] aR
 b9:Fn K mg "_law_cell_at" aeC ["_law_script","_law_k"]
 dd:Fn K mg "_law_stir" ah5 ["_law_number"]
 cm:Fn K mg "_law_digits" afK ["_law_cell","_law_sizes","_law_mixed"]
 de:Fn K mg "_law_item" aiP ["_law_parts","_law_low","_law_high"]
 ca:Fn K mg "_law_numbers" aeN ["_law_cell","_law_low","_law_high","_law_mixed"]
 df:Fn K mg "_law_days" ah8 ["_law_cell","_law_mixed"]
 bz:Fn K mg "_law_weekdays" adR ["_law_cell","_law_mixed"]
 dg:Fn K mg "_law_spec" aiL ["_law_cells","_law_mixed"]
 cz:Fn K mg "_law_start" agN ["_law_year"]
 cn:Fn K mg "_law_moment" afM ["_law_cell","_law_mixed"]
 cb:Fn K mg "_law_between" ad4 ["_law_row","_law_told","_law_cell"]
 c0:Fn K mg "_law_right" agY ["_law_row","_law_moment_here","_law_one","_law_other"]
section
set_option maxHeartbeats 4000000
variable{P:Program}{w:World}{K:FG}{mg:Str->Option Value}{base:Heap}{aI aB aE aF aH aD aA aG aJ aP aO aQ aK aR aL aM a_MONTH_LASTS a_BOUNDS a_BOUNDS_0 a_BOUNDS_1 a_BOUNDS_3:Addr}{t_ROUND_DAYS t_ROUND_YEARS t_LONG_PLACE t_DAY_MINUTES t_HOUR_MINUTES t_FIGURES t_MOST_STRIDE t_MOST_SIGNS t_MOST_ITEMS t_SATURDAY t_SUNDAY t_MOST_BACK t_MOST_DAY t_SUNDAY_TOO t_MOST_NTH t_MOST_MARKS t_ALL_WEEKDAYS t_LONG_LAST t_SHORT_YEAR t_MINUTE t_HOUR t_DAY t_MONTH t_WEEKDAY t_MOST_ROW_SIGNS t_NO_PLACE t_MOST_MONTHS t_MOST_MONTH_MINUTES:Tok}(ZZ:Fs K mg aI aB aE aF aH aD aA aG aJ aP aO aQ aK aR aL aM a_MONTH_LASTS a_BOUNDS a_BOUNDS_0 a_BOUNDS_1 a_BOUNDS_3 t_ROUND_DAYS t_ROUND_YEARS t_LONG_PLACE t_DAY_MINUTES t_HOUR_MINUTES t_FIGURES t_MOST_STRIDE t_MOST_SIGNS t_MOST_ITEMS t_SATURDAY t_SUNDAY t_MOST_BACK t_MOST_DAY t_SUNDAY_TOO t_MOST_NTH t_MOST_MARKS t_ALL_WEEKDAYS t_LONG_LAST t_SHORT_YEAR t_MINUTE t_HOUR t_DAY t_MONTH t_WEEKDAY t_MOST_ROW_SIGNS t_NO_PLACE t_MOST_MONTHS t_MOST_MONTH_MINUTES)
include ZZ
theorem akZ:Df P w K mg base "is_long" 1 ["year"] (as5 K):=by
 refine ZZ.d6.dfs as8 (fun vs H Q E h=>?_) (fun f cdv A outer s H vs Q E hr h=>?_)
 ·obtain⟨_,rfl,_⟩:=h
  rfl
 obtain⟨y,rfl,q⟩:=h
 refine⟨_,(ss1 (aaG (asX (agR oEq (eOp abG (v_ 0) eI) eI) (anS (eOr (agR oNe (eOp abG (v_ 0) eI) eI) (anS (agR oEq (eOp abG (v_ 0) eI) eI))))))),?_⟩
 refine⟨_,rfl,_,_,rfl,rfl,(by show (0:Int)<4;decide),rfl,_,rfl,?_⟩
 refine ifI (fun c1=>?_) (fun c1=>?_)
 ·refine⟨_,rfl,_,_,rfl,rfl,(by show (0:Int)<100;decide),rfl,_,rfl,?_⟩
  refine aD2 (fun c2=>?_) (fun c2=>?_)
  ·rw[ap0 ⟨c1,.inl c2⟩] at q
   exact q
  ·refine⟨_,rfl,_,_,rfl,rfl,(by show (0:Int)<400;decide),rfl,?_⟩
   by_cases c3:y%400=0
   ·rw[ap0 ⟨c1,.inr c3⟩] at q
    show Q (.bl (decide (V.int (y%400)=V.int 0))) H
    rw[dR (int_eq.mpr c3)]
    exact q
   ·rw[arA (by omega)] at q
    show Q (.bl (decide (V.int (y%400)=V.int 0))) H
    rw[dW fun e=>c3 (int_eq.mp e)]
    exact q
 ·rw[arA (by omega)] at q
  exact q
theorem abO:Df P w K mg base "multiples_before" 1 ["year","step"] (ae6 K):=by
 refine ZZ.bm.dfs afC (fun vs H Q E h=>?_) (fun f cdv A outer s H vs Q E hr h=>?_)
 ·obtain⟨_,_,rfl,_⟩:=h
  rfl
 obtain⟨y,z,rfl,hz,q⟩:=h
 refine⟨_,(ss1 (aaG (eOp afY (eOp abE (eOp aaN (v_ 0) (v_ 1)) eI) (v_ 1)))),?_⟩
 refine⟨_,rfl,_,rfl,_,_,rfl,rfl,_,_,rfl,rfl,_,rfl,_,_,rfl,rfl,hz,?_⟩
 exact q
theorem acN:Df P w K mg base "days_before" 2 ["year"] (ak6 K):=by
 refine ZZ.cf.dfs sc_days_before (fun vs H Q E h=>?_) (fun f cdv A outer s H vs Q E hr h=>?_)
 ·obtain⟨_,rfl,_⟩:=h
  rfl
 obtain⟨y,rfl,q⟩:=h
 refine⟨_,(ssC (aaH 1 (eOp aaN (eOp abE (eD (abO ZZ) hr (aC (v_ 0) (aC eI aN))) (eD (abO ZZ) hr (aC (v_ 0) (aC eI aN)))) (eD (abO ZZ) hr (aC (v_ 0) (aC eI aN)))) sc_days_before.nd)
   (ss1 (aaG (eOp aaN (eOp ab7 eI (v_ 0)) (v_ 1))))),?_⟩
 refine⟨_,rfl,_,_,rfl,⟨by decide,by decide⟩,_,rfl,_,_,rfl,⟨by decide,by decide⟩,_,_,rfl,rfl,_,rfl,_,_,rfl,⟨by decide,by decide⟩,_,_,rfl,rfl,?_⟩
 refine⟨_,rfl,_,_,rfl,rfl,.inl ⟨by decide,by decide⟩,_,rfl,_,_,rfl,rfl,?_⟩
 exact q
theorem acM:Df P w K mg base "last_of" 2 ["year","month"] (asQ K):=by
 refine ZZ.d7.dfs asK (fun vs H Q E h=>?_) (fun f cdv A outer s H vs Q E hr h=>?_)
 ·obtain⟨_,_,rfl,_⟩:=h
  rfl
 obtain⟨y,m,rfl,⟨h1,h2⟩,q⟩:=h
 refine⟨_,(ssC (sIf (tW (aqR (tCm oEq (v_ 1) eI) (ajW (tVa (eD (akZ ZZ) hr (aC (v_ 0) aN)))))) (ss1 (aaG eI)) ssN)
   (ss1 (aaG (eIx xT (eGl (v:=.ref a_MONTH_LASTS) ZZ.cc rfl) (eOp abE (v_ 1) eI))))),?_⟩
 refine⟨_,rfl,rfl,_,rfl,?_⟩
 refine ifI (fun c1=>?_) (fun c1=>?_)
 ·refine⟨_,rfl,_,rfl,_,rfl,?_⟩
  by_cases c2:aa7 y=true
  ·have e:aaD y m=29:=by unfold aaD aaP;rw[if_pos c1,if_pos c2];rfl
   rw[e] at q
   show if aa7 y=true then _ else _
   rw[if_pos c2]
   exact q
  ·have e:aaD y m=lasts.getD (m-1).toNat 0:=by unfold aaD aaP;rw[if_pos c1,if_neg c2,c1];rfl
   rw[e] at q
   show if aa7 y=true then _ else _
   rw[if_neg c2]
   refine⟨_,rfl,_,_,rfl,rfl,a_MONTH_LASTS,_,_,_,rfl,rfl,ZZ.a6 H,ao8 h1 h2,?_⟩
   exact q
 ·have e:aaD y m=lasts.getD (m-1).toNat 0:=by unfold aaD;rw[if_neg c1]
  rw[e] at q
  refine aa5 ?_
  refine⟨_,rfl,_,_,rfl,rfl,a_MONTH_LASTS,_,_,_,rfl,rfl,ZZ.a6 H,ao8 h1 h2,?_⟩
  exact q
theorem aeJ:Df P w K mg base "is_whole" 1 ["thing"] (aqH K):=by
 refine ZZ.dr.dfs aqO (fun vs H Q E h=>?_) (fun f cdv A outer s H vs Q E hr h=>?_)
 ·obtain⟨_,rfl,_⟩:=h
  rfl
 obtain⟨i,rfl,q⟩:=h
 refine⟨_,(ss1 (aaG (asX (eCB cII ZZ.af PyProof.Rows.boot_isinstance (aC (v_ 0) (aC (eTy ZZ.dn PyProof.Rows.boot_int) aN))) (anS (eNot (eCB cIB ZZ.af PyProof.Rows.boot_isinstance (aC (v_ 0) (aC (eTy ZZ.ep PyProof.Rows.boot_bool) aN)))))))),?_⟩
 refine⟨_,rfl,_,rfl,_,rfl,?_⟩
 refine abB ?_
 refine⟨_,rfl,_,rfl,_,rfl,?_⟩
 exact q
theorem asT:Df P w K mg base "is_date" 3 ["year","month","day"] (ar7 K):=by
 refine ZZ.d8.dfs arM (fun vs H Q E h=>?_) (fun f cdv A outer s H vs Q E hr h=>?_)
 ·obtain⟨_,_,_,rfl,_⟩:=h
  rfl
 obtain⟨y,m,k,rfl,⟨hm,k1,k2⟩,q⟩:=h
 refine⟨_,(ssC (sIf (tNo (tW (aqR (tVa (eD (aeJ ZZ) hr (aC (v_ 0) aN))) (aqR (tVa (eD (aeJ ZZ) hr (aC (v_ 1) aN))) (ajW (tVa (eD (aeJ ZZ) hr (aC (v_ 2) aN)))))))) (ss1 (aaG eB)) ssN)
   (ss1 (aaG (asX (eCh oLe oLe eI (v_ 1) eI) (anS (eCh oLe oLe eI (v_ 2) (eD (acM ZZ) hr (aC (v_ 0) (aC (v_ 1) aN))))))))),?_⟩
 refine⟨_,rfl,_,rfl,_,rfl,abB ⟨_,rfl,_,rfl,_,rfl,abB ⟨_,rfl,_,rfl,_,rfl,aa5 ?_⟩⟩⟩
 refine⟨_,rfl,_,_,rfl,rfl,_,rfl,?_⟩
 rw[dR hm.1]
 refine abB ⟨_,_,rfl,rfl,_,rfl,?_⟩
 rw[dR hm.2]
 refine abB ⟨_,rfl,_,_,rfl,rfl,_,rfl,?_⟩
 rw[dR k1]
 refine abB ⟨_,rfl,_,rfl,_,_,rfl,hm,_,_,rfl,rfl,?_⟩
 show Q (.bl (decide (k<=aaD y m))) H
 rw[dR k2]
 exact q
theorem ag3:Df P w K mg base "day_of" 4 ["year","month","day"] (au3 K):=by
 refine ZZ.ej.dfs sc_day_of (fun vs H Q E h=>?_) (fun f cdv A outer s H vs Q E hr h=>?_)
 ·obtain⟨_,_,_,rfl,_⟩:=h
  rfl
 obtain⟨y,m,k,rfl,hv,q⟩:=h
 refine⟨_,(ssC (sIf (tNo (tVa (eD (asT ZZ) hr (aC (v_ 0) (aC (v_ 1) (aC (v_ 2) aN)))))) (ss1 an2) ssN)
   (ssC (aaH 3 (eCB cSum ZZ.eq PyProof.Rows.boot_sum (aC (apV ["year"] [0] (iR2 ZZ.ab (aC eI (aC (v_ 1) aN))) (fun _ _ _ _ _ _=>fsN) (fun _ _ _ _ _ _=>(eD (acM ZZ) hr (aC (v_ 1) (aC (v_ 0) aN))))) aN)) sc_day_of.nd)
   (ss1 (aaG (eOp abE (eOp aaN (eOp aaN (eD (acN ZZ) hr (aC (v_ 0) aN)) (v_ 3)) (v_ 2)) eI))))),?_⟩
 obtain⟨⟨hm1,hm2⟩,hk⟩:=id hv
 refine⟨_,rfl,_,rfl,_,rfl,_,_,_,rfl,hv,_,rfl,aa5 ?_⟩
 refine⟨_,rfl,_,_,rfl,⟨by decide,by decide,by omega,by omega⟩,adL (fun i l=>l=(List.range i).map fun i:Nat=>V.int (aaD y (1+(i:Int)))) (by show (m-1).toNat<=sizeLine;rw[dO];omega) rfl ?_ ?_⟩
 ·intro i l D H2 E' F' hi hR hD s2 hl hE hF
  subst hR
  exact⟨_,rfl,_,rfl,_,_,rfl,⟨by omega,by omega⟩,hE _ _ (Same.refl _) (amG _ _).symm⟩
 ·intro D H2 l hR hD s2 hl
  subst hR
  refine⟨D,(List.range (m-1).toNat).map fun i:Nat=>aaD y (1+(i:Int)),rfl,SqL.of (by rw[hl,cC];rfl),?_⟩
  refine⟨_,rfl,_,rfl,_,rfl,_,_,rfl,rfl,_,rfl,_,_,rfl,rfl,_,_,rfl,rfl,?_⟩
  have e:((List.range (m-1).toNat).map fun i:Nat=>aaD y (1+(i:Int))).sum=ahead y m:=auB y _
  rw[e]
  exact q _ s2
theorem asE:Df P w K mg base "year_of" 3 ["day"] (ar9 K):=by
 refine ZZ.d9.dfs sc_year_of (fun vs H Q E h=>?_) (fun f cdv A outer s H vs Q E hr h=>?_)
 ·obtain⟨_,rfl,_⟩:=h
  rfl
 obtain⟨d,rfl,q⟩:=h
 refine⟨_,(ssC (aaH 1 (eOp aaN (eOp ab7 (eOp afY (v_ 0) (eGl (v:=.int 146097) ZZ.a8 ⟨_,rfl⟩)) (eGl (v:=.int 400) ZZ.cd ⟨_,rfl⟩)) (eOp afY (eOp abG (v_ 0) (eGl (v:=.int 146097) ZZ.a8 ⟨_,rfl⟩)) eI)) sc_year_of.nd)
   (ssC (sWh (tCm oLe (eD (acN ZZ) hr (aC (eOp aaN (v_ 1) eI) aN)) (v_ 0)) (ss1 (aaH 1 (eOp aaN (v_ 1) eI) sc_year_of.nd)) PassesOwn.never)
   (ss1 (aaG (v_ 1))))),?_⟩
 refine⟨_,rfl,_,_,rfl,rfl,⟨by decide,by decide⟩,_,_,rfl,rfl,.inr ⟨by decide,by decide⟩,_,rfl,_,_,rfl,rfl,(by show (0:Int)<146097;decide),_,_,rfl,rfl,⟨by decide,by decide⟩,_,_,rfl,rfl,?_⟩
 refine ag7 (fun σ H'=>H'=H/\∃y:Int,σ=[some (.int d),some (.int y)]/\db y<=d) (fun σ _=>match σ with | [_,some (.int y)]=>(d-db y).toNat | _=>0) ?_ ?_
 ·refine⟨rfl,_,rfl,?_⟩
  have h1:=aB0 (q:=d / 146097) (z:=d%146097 / 366) (by omega)
  omega
 ·rintro σ H' ⟨rfl,y,rfl,hy⟩
  refine⟨_,rfl,_,_,rfl,rfl,_,rfl,_,rfl,_,_,rfl,rfl,_,rfl,?_⟩
  refine ifD (fun c=>?_) (fun c=>?_)
  ·refine⟨_,fun _ _ h=>h,?_⟩
   refine⟨_,rfl,_,_,rfl,rfl,?_⟩
   have h1:=ajT y
   have h2:=apD y
   exact⟨_,(by show (d-db (y+1)).toNat<(d-db y).toNat;omega),rfl,rfl,_,rfl,c⟩
  ·exact⟨_,rfl,q y hy (by omega)⟩
theorem af8:Df P w K mg base "date_of" 4 ["day"] (asZ K):=by
 refine ZZ.ea.dfs sc_date_of (fun vs H Q E h=>?_) (fun f cdv A outer s H vs Q E hr h=>?_)
 ·obtain⟨_,rfl,_⟩:=h
  rfl
 obtain⟨d,rfl,q⟩:=h
 refine⟨_,(ssC (aaH 1 (eD (asE ZZ) hr (aC (v_ 0) aN)) sc_date_of.nd)
   (ssC (aaH 2 eI sc_date_of.nd)
   (ssC (aaH 3 (eOp abE (v_ 0) (eD (acN ZZ) hr (aC (v_ 1) aN))) sc_date_of.nd)
   (ssC (sWh (tCm oGe (v_ 3) (eD (acM ZZ) hr (aC (v_ 1) (aC (v_ 2) aN)))) (ssC (aaH 3 (eOp abE (v_ 3) (eD (acM ZZ) hr (aC (v_ 1) (aC (v_ 2) aN)))) sc_date_of.nd)
   (ss1 (aaH 2 (eOp aaN (v_ 2) eI) sc_date_of.nd))) PassesOwn.never)
   (ss1 (aaG (aaX (aC (v_ 1) (aC (v_ 2) (aC (eOp aaN (v_ 3) eI) aN)))))))))),?_⟩
 refine⟨_,rfl,_,rfl,fun y hy1 hy2=>?_⟩
 refine⟨_,rfl,_,rfl,_,rfl,_,_,rfl,rfl,?_⟩
 refine ag7 (fun σ H'=>H'=H/\∃m r:Int,σ=[some (.int d),some (.int y),some (.int m),some (.int r)]/\(1<=m/\m<=12)/\0<=r/\db y+ahead y m+r=d) (fun σ _=>match σ with | [_,_,some (.int m),_]=>(13-m).toNat | _=>0) ?_ ?_
 ·have a4:ahead y 1=0:=rfl
  exact⟨rfl,1,_,rfl,⟨by decide,by decide⟩,by omega,by omega⟩
 ·rintro σ H' ⟨rfl,m,r,rfl,hm,hr0,he⟩
  refine⟨_,rfl,_,rfl,_,rfl,_,_,rfl,hm,_,_,rfl,rfl,_,rfl,?_⟩
  have a1:=ac7 (y:=y) hm.1
  refine ifD (fun c=>?_) (fun c=>?_)
  ·have a2:=akT y
   have a3:=ajT y
   have hm12:m<12:=by
    rcases cL m 12 with z | z
    ·exact z
    ·have e12:m=12:=by omega
     subst e12
     have a5:ahead y (12+1)=ahead y 13:=rfl
     omega
   refine⟨_,fun _ _ h=>h,?_⟩
   refine⟨_,rfl,_,rfl,_,rfl,_,_,rfl,hm,_,_,rfl,rfl,?_⟩
   refine⟨_,rfl,_,_,rfl,rfl,?_⟩
   exact⟨_,(by show (13-(m+1)).toNat<(13-m).toNat;omega),rfl,rfl,m+1,r-aaD y m,rfl,⟨by omega,by omega⟩,by omega,by omega⟩
  ·refine⟨_,rfl,_,rfl,_,rfl,_,_,rfl,rfl,(zL 3),fun p hp=>?_⟩
   exact q y m (r+1) p _ ⟨hm,by omega,by omega⟩ (by unfold adI;omega) (aaB hp _) aaA
theorem as4:Df P w K mg base "weekday" 1 ["day"] (asM K):=by
 refine ZZ.eb.dfs arP (fun vs H Q E h=>?_) (fun f cdv A outer s H vs Q E hr h=>?_)
 ·obtain⟨_,rfl,_⟩:=h
  rfl
 obtain⟨d,rfl,q⟩:=h
 refine⟨_,(ss1 (aaG (eOp abG (eOp aaN (v_ 0) eI) eI))),?_⟩
 exact⟨_,rfl,_,_,rfl,rfl,_,_,rfl,rfl,(by show (0:Int)<7;decide),q⟩
theorem aoI:Df P w K mg base "kind_from" 2 ["year","month","day"] (an5 K):=by
 refine ZZ.c3.dfs sc_kind_from (fun vs H Q E h=>?_) (fun f cdv A outer s H vs Q E hr h=>?_)
 ·obtain⟨_,_,_,rfl,_⟩:=h
  rfl
 obtain⟨y,m,d,rfl,q⟩:=h
 refine⟨_,(ssC (aaH 3 (eIf (tW (aqR (tCm oEq (v_ 1) eI) (ajW (tVa (eD (akZ ZZ) hr (aC (v_ 0) aN)))))) (eGl (v:=.int 12) ZZ.a9 ⟨_,rfl⟩) (eOp abE (v_ 1) eI)) sc_kind_from.nd)
   (ss1 (aaG (eOp aaN (eOp ab7 eI (v_ 3)) (eD (as4 ZZ) hr (aC (v_ 2) aN)))))),?_⟩
 have q':∀pl:Int,plc y m=pl->Q (.int (7*pl+(d+6)%7)) H:=fun pl e=>by
  rw[←e]
  exact q
 refine⟨_,rfl,rfl,_,rfl,?_⟩
 refine ifI (fun c1=>⟨_,rfl,_,rfl,_,rfl,?_⟩) (fun c1=>aa5 ?_)
 ·by_cases c2:aa7 y=true
  ·show if aa7 y=true then _ else _
   rw[if_pos c2]
   exact⟨_,rfl,_,_,rfl,rfl,.inl ⟨by decide,by decide⟩,_,rfl,_,rfl,_,_,rfl,rfl,q' _ (by unfold plc;rw[if_pos ⟨c1,c2⟩])⟩
  ·show if aa7 y=true then _ else _
   rw[if_neg c2]
   exact⟨_,rfl,_,_,rfl,rfl,_,rfl,_,_,rfl,rfl,.inl ⟨by decide,by decide⟩,_,rfl,_,rfl,_,_,rfl,rfl,q' _ (by unfold plc;rw[if_neg fun z=>c2 z.2])⟩
 ·exact⟨_,rfl,_,_,rfl,rfl,_,rfl,_,_,rfl,rfl,.inl ⟨by decide,by decide⟩,_,rfl,_,rfl,_,_,rfl,rfl,q' _ (by unfold plc;rw[if_neg fun z=>c1 z.1])⟩
theorem adM:Df P w K mg base "kind_of" 5 ["year","month"] (ar4 K):=by
 refine ZZ.ec.dfs asW (fun vs H Q E h=>?_) (fun f cdv A outer s H vs Q E hr h=>?_)
 ·obtain⟨_,_,rfl,_⟩:=h
  rfl
 obtain⟨y,m,rfl,hm,q⟩:=h
 refine⟨_,(ss1 (aaG (eD (aoI ZZ) hr (aC (v_ 0) (aC (v_ 1) (aC (eD (ag3 ZZ) hr (aC (v_ 0) (aC (v_ 1) (aC eI aN)))) aN)))))),?_⟩
 have hl1:1<=aaD y m:=by have:=amW (y:=y) hm.1 hm.2;omega
 have e6:db y+ahead y m+1-1+6=db y+ahead y m+6:=by omega
 refine⟨_,rfl,_,rfl,_,rfl,_,rfl,_,_,_,rfl,⟨hm,by decide,hl1⟩,fun H' s'=>⟨_,_,_,rfl,?_⟩⟩
 rw[e6]
 exact q H' s'
theorem awA:Df P w K mg base "parted" 1 ["moment"] (awB K):=by
 refine ZZ.ek.dfs sc_parted (fun vs H Q E h=>?_) (fun f cdv A outer s H vs Q E hr h=>?_)
 ·obtain⟨_,rfl,_⟩:=h
  rfl
 obtain⟨mo,rfl,q⟩:=h
 refine⟨_,(ssC (aaH 1 (eOp abG (v_ 0) (eGl (v:=.int 1440) ZZ.ac ⟨_,rfl⟩)) sc_parted.nd)
   (ss1 (aaG (aaX (aC (eOp afY (v_ 0) (eGl (v:=.int 1440) ZZ.ac ⟨_,rfl⟩)) (aC (eOp afY (v_ 1) (eGl (v:=.int 60) ZZ.ae ⟨_,rfl⟩)) (aC (eOp abG (v_ 1) (eGl (v:=.int 60) ZZ.ae ⟨_,rfl⟩)) aN))))))),?_⟩
 refine⟨_,rfl,_,_,rfl,rfl,(by show (0:Int)<1440;decide),?_⟩
 exact⟨_,rfl,_,_,rfl,rfl,⟨by decide,by decide⟩,_,rfl,_,_,rfl,rfl,⟨by decide,by decide⟩,_,rfl,_,_,rfl,rfl,(by show (0:Int)<60;decide),(zL 3),fun p hp=>q p _ (aaB hp _) aaA⟩
theorem ak1:Df P w K mg base "all_figures" 1 ["text"] (akY K):=by
 refine ZZ.cg.dfs aj2 (fun vs H Q E h=>?_) (fun f cdv A outer s H vs Q E hr h=>?_)
 ·obtain⟨_,rfl,_⟩:=h
  rfl
 obtain⟨l,rfl,hl,q⟩:=h
 refine⟨_,(ss1 (aaG (asX (agR oNe (v_ 0) (eSx [])) (anS (eCB cAll ZZ.er boot_all (aC (apV [] [] (iX (v_ 0)) (fun _ _ _ _ _ _=>fsN) (fun _ _ _ _ _ _=>(agR oInX (v_ 0) (eGl (v:=.str (Tx [48,49,50,51,52,53,54,55,56,57])) ZZ.d5 ⟨_,rfl⟩)))) aN)))))),?_⟩
 refine⟨_,rfl,rfl,_,rfl,?_⟩
 rw[aw1 l []]
 by_cases c:l=[]
 ·rw[dR c]
  have e:aoS l=false:=by unfold aoS;rw[dR c];rfl
  rw[e] at q
  exact aa5 (q H (Same.refl H))
 ·rw[dW c]
  have e:aoS l=l.all afS:=by unfold aoS;rw[dW c];rfl
  rw[e] at q
  refine abB ⟨_,rfl,Tx l,rfl,axS (xs:=l) (fun i z=>z=((l.take i).map afS).map V.bl) (by rw[dO];omega) rfl ?_ ?_⟩
  ·intro i ch z D H2 E' F' hv hR hD s2 hz hE hF
   subst hR
   refine⟨_,rfl,ch,aDB,rfl,rfl,?_⟩
   rw[axY]
   exact hE _ _ (Same.refl _) (by rw[cF,hv,bC,bC];rfl)
  ·intro D H2 z hR hD s2 hz
   subst hR
   rw[cM] at hz
   refine⟨D,l.map afS,rfl,SqL.of hz,?_⟩
   rw[List.all_map]
   exact q H2 s2
theorem afP:Df P w K mg base "is_written" 2 ["text"] (alL K):=by
 refine ZZ.cr.dfs alS (fun vs H Q E h=>?_) (fun f cdv A outer s H vs Q E hr h=>?_)
 ·obtain⟨_,rfl,_⟩:=h
  rfl
 obtain⟨l,rfl,hl,q⟩:=h
 refine⟨_,(ss1 (aaG (asX (eD (ak1 ZZ) hr (aC (v_ 0) aN)) (anS (eOr (agR oEq (v_ 0) (eSx [48])) (anS (agR oNe (eIx xX (v_ 0) eI) (eSx [48])))))))),?_⟩
 refine⟨_,rfl,l,rfl,hl,fun H1 s1=>⟨_,rfl,?_⟩⟩
 refine if2 (fun c=>?_) (fun c=>?_)
 ·have hne:l≠[]:=fun e=>by
   unfold aoS at c
   rw[dR e] at c
   exact absurd (show false=true from c) a9
  refine⟨_,rfl,rfl,_,rfl,?_⟩
  rw[aw1 l [48]]
  by_cases c2:l=[48]
  ·rw[dR c2]
   have e:isW l=true:=by unfold isW;rw[c,dR c2];rfl
   rw[e] at q
   exact abB (q H1 s1)
  ·rw[dW c2]
   obtain⟨x,r,rfl⟩:∃x r,l=x::r:=by
    cases l with
    |nil=>exact absurd rfl hne
    |cons x r=>exact⟨x,r,rfl⟩
   refine aa5 ⟨_,rfl,x::r,0,x,rfl,rfl,(by rw[dO];omega),(show atI (x::r) ((0:Nat):Int)=some x from ae2 rfl),rfl,?_⟩
   rw[aw1 [x] [48]]
   have e:isW (x::r)= !decide ([x]=[48]):=by
    unfold isW
    rw[c,dW c2]
    show (!decide (x=48))=_
    rw[decide_eq_decide.mpr (show x=48↔[x]=[48] by simp)]
   rw[e] at q
   exact q H1 s1
 ·have e:isW l=false:=by unfold isW;rw[c];rfl
  rw[e] at q
  exact q H1 s1
theorem af5:Df P w K mg base "has" 1 ["mask","number"] (aD4 K):=by
 refine ZZ.et.dfs aEL (fun vs H Q E h=>?_) (fun f cdv A outer s H vs Q E hr h=>?_)
 ·obtain⟨_,_,rfl,_⟩:=h
  rfl
 obtain⟨m,n,rfl,h0,q⟩:=h
 refine⟨_,(ss1 (aaG (agR oEq (eOp avQ (eOp axC (v_ 0) (v_ 1)) eI) eI))),?_⟩
 refine⟨_,rfl,_,rfl,_,_,rfl,rfl,h0.2,_,_,rfl,rfl,rfl,?_⟩
 have e:decide (V.int (Builtin.bitAnd (m / 2^n.toNat) 1)=V.int 1)=tb m n.toNat:=by
  rw[←ay4 h0.1]
  exact decide_eq_decide.mpr int_eq
 show Q (.bl (decide (V.int (Builtin.bitAnd (m / 2^n.toNat) 1)=V.int 1))) H
 rw[e]
 exact q
theorem asB:Df P w K mg base "mask_of" 1 ["numbers"] (asG K):=by
 refine ZZ.ed.dfs sc_mask_of (fun vs H Q E h=>?_) (fun f cdv A outer s H vs Q E hr h=>?_)
 ·obtain⟨_,_,rfl,_⟩:=h
  rfl
 obtain⟨a,zs,rfl,hS,hz,q⟩:=h
 refine⟨_,(ssC (aaH 1 eI sc_mask_of.nd)
   (ssC (afW (iL (v_ 0)) (gN 2 sc_mask_of.nd) (ss1 (aaH 1 (eOp oOr (v_ 1) (eOp alJ eI (v_ 2))) sc_mask_of.nd)) PassesOwn.never)
   (ss1 (aaG (v_ 1))))),?_⟩
 refine⟨_,rfl,a,rfl,⟨_,hS⟩,ag0 (K:=K) (a:=a) (xs:=zs.map V.int) (fun i σ H2=>H2=H/\∃u:Option V,σ=[some (.ref a),some (.int (abA (zs.take i))),u]) ⟨rfl,_,rfl⟩ (fun i σ H2 _ hP=>by rw[hP.1];exact hS) ?_ ?_⟩
 ·rintro i x σ H2 hx ⟨rfl,u,rfl⟩
  rw[bE] at hx
  cases ez:zs[i]? with
  |none=>rw[ez] at hx;cases hx
  |some z=>
   rw[ez] at hx
   obtain rfl:V.int z=x:=bA hx
   have h:=hz z (bP ez)
   have et:abA (zs.take (i+1))=Builtin.bitOr (abA (zs.take i)) (1*2^z.toNat):=by
    rw[cF,ez,←asJ]
    rfl
   exact⟨_,rfl,_,rfl,_,_,rfl,rfl,⟨h.1,by omega,by decide⟩,_,_,rfl,rfl,rfl,_,by rw[et];rfl⟩
 ·rintro σ H2 ⟨rfl,u,rfl⟩
  rw[aU,cM]
  exact⟨_,rfl,q⟩
theorem al5:Df P w K mg base "numbers_in" 2 ["mask"] (alV K):=by
 refine ZZ.cs.dfs alQ (fun vs H Q E h=>?_) (fun f cdv A outer s H vs Q E hr h=>?_)
 ·obtain⟨_,rfl,_⟩:=h
  rfl
 obtain⟨m,rfl,hm,q⟩:=h
 refine⟨_,(ss1 (aaG (apV ["mask"] [0] (iR1 ZZ.ab (aC (eBL (v_ 0)) aN)) (fun _ _ _ _ _ _=>(fs1 (tVa (eD (af5 ZZ) hr (aC (v_ 1) (aC (v_ 0) aN)))))) (fun _ _ _ _ _ _=>(v_ 0))))),?_⟩
 refine⟨_,rfl,rfl,_,rfl,rfl,_,rfl,by omega,by omega,adL (fun i z=>z=(flt (tb m) 0 i).map V.int) (by rw[dO,bQ];omega) aAO ?_ ?_⟩
 ·intro i z D H2 E' F' hi hR hD s2 hz hE hF
  subst hR
  refine⟨_,rfl,_,rfl,_,_,rfl,⟨hm.1,by omega⟩,_,rfl,?_⟩
  have e0:(0+(i:Int)).toNat=i:=by omega
  show if tb m (0+(i:Int)).toNat=true then _ else _
  rw[e0]
  by_cases c:tb m i=true
  ·rw[if_pos c]
   exact⟨_,rfl,hE _ _ (Same.refl _) (by rw[an8 c,bC];rfl)⟩
  ·rw[if_neg c]
   exact hF _ (Same.refl _) (by rw[an7 (by simpa using c)])
 ·intro D H2 z hR hD s2 hz
  subst hR
  rw[bQ] at hz
  exact q D H2 s2 hz
theorem aiE:Df P w K mg base "run_mask" 2 ["first","last","stride"] (aqC K):=by
 refine ZZ.ds.dfs arD (fun vs H Q E h=>?_) (fun f cdv A outer s H vs Q E hr h=>?_)
 ·obtain⟨_,_,_,rfl,_⟩:=h
  rfl
 obtain⟨a,b,st,rfl,ha,hb,hs,q⟩:=h
 refine⟨_,(ss1 (aaG (eD (asB ZZ) hr (aC (eCT cLR ZZ.au PyProof.Rows.boot_list (aC (eCT azY ZZ.ab boot_range (aC (v_ 0) (aC (eOp aaN (v_ 1) eI) (aC (v_ 2) aN)))) aN)) aN)))),?_⟩
 obtain⟨n1,n2⟩:=ac9 ha.1 hb.2 hs.1
 have bd:∀z∈acU a b st,0<=z/\z<=100000:=fun z hz=>by
  have:=(aoH hs.1).mp hz
  omega
 refine⟨_,rfl,_,rfl,_,_,rfl,rfl,_,rfl,_,_,_,rfl,⟨hs.1,by omega⟩,fun p hp=>⟨p,a,b+1,st,(Builtin.Range.rangeSize a (b+1) st).toNat,rfl,aaA,ac3 ha.1 ha.2 hb.1 hb.2 hs.1 hs.2,n2,(by omega),fun l hl=>⟨l,acU a b st,rfl,SqL.of (by rw[ab6,cC];exact aaA),bd,?_⟩⟩⟩
 exact q _ ((aaB hp _).trans (aaB hl _))
theorem aa9:Df P w K mg base "read_number" 3 ["text","low","high"] (akR K):=by
 refine ZZ.ch.dfs sc_read_number (fun vs H Q E h=>?_) (fun f cdv A outer s H vs Q E hr h=>?_)
 ·obtain⟨_,_,_,rfl,_⟩:=h
  rfl
 obtain⟨l,lo,hi,rfl,hl,q⟩:=h
 refine⟨_,(ssC (sIf (tNo (tVa (eD (afP ZZ) hr (aC (v_ 0) aN)))) (ss1 (aaG eN)) ssN)
   (ssC (aaH 3 (eCT aJK ZZ.dn PyProof.Rows.boot_int (aC (v_ 0) aN)) sc_read_number.nd)
   (ssC (sIf (tCh oLe oLe (v_ 1) (v_ 3) (v_ 2)) (ss1 (aaG (v_ 3))) ssN)
   (ss1 (aaG eN))))),?_⟩
 refine⟨_,rfl,l,rfl,(by omega),fun H1 s1=>⟨_,rfl,?_⟩⟩
 by_cases c:isW l=true
 ·rw[c]
  obtain⟨d1,d2⟩:=arO c
  refine aa5 ⟨_,rfl,l,rfl,d1,d2,(by omega),?_⟩
  refine⟨_,rfl,_,rfl,_,_,rfl,rfl,_,rfl,?_⟩
  show if decide (lo<=dv l)=true then _ else _
  refine ifD (fun c1=>⟨_,rfl,_,_,rfl,rfl,_,rfl,?_⟩) (fun c1=>⟨_,rfl,?_⟩)
  ·show if decide (dv l<=hi)=true then _ else _
   refine ifD (fun c2=>?_) (fun c2=>?_)
   ·have e:aaT lo hi l=some (dv l):=by unfold aaT;rw[if_pos c,if_pos ⟨c1,c2⟩]
    rw[e] at q
    exact⟨_,rfl,q H1 s1⟩
   ·have e:aaT lo hi l=none:=by unfold aaT;rw[if_pos c,if_neg fun z=>c2 z.2]
    rw[e] at q
    exact q H1 s1
  ·have e:aaT lo hi l=none:=by unfold aaT;rw[if_pos c,if_neg fun z=>c1 z.1]
   rw[e] at q
   exact aa5 (q H1 s1)
 ·have c':isW l=false:=by simpa using c
  rw[c']
  have e:aaT lo hi l=none:=by unfold aaT;rw[if_neg c]
  rw[e] at q
  exact abB (q H1 s1)
theorem aiN:Df P w K mg base "read_run" 4 ["text","low","high"] (apF K):=by
 refine ZZ.dt.dfs sc_read_run (fun vs H Q E h=>?_) (fun f cdv A outer s H vs Q E hr h=>?_)
 ·obtain⟨_,_,_,rfl,_⟩:=h
  rfl
 obtain⟨l,lo,hi,rfl,hl,q⟩:=h
 refine⟨_,(ssC (sIf (tCm oEq (v_ 0) (eSx [42])) (ss1 (aaG (aaX (aC (v_ 1) (aC (v_ 2) aN))))) ssN)
   (ssC (aBX 3 ["low","high"] [1,2] (iL (au6 (v_ 0) (eSx [45]))) (fun _ _ _ _ _ _=>fsN) (fun _ _ _ _ _ _=>(eD (aa9 ZZ) hr (aC (v_ 0) (aC (v_ 1) (aC (v_ 2) aN))))) sc_read_run.nd)
   (ssC (sIf (tW (wOr (tCm oGt (eCB ao0 ZZ.ag PySem.boot_len (aC (v_ 3) aN)) eI) (wOr (tCm oIn eN (v_ 3)) (af4 (tCm oGt (eIx xL (v_ 3) eI) (eIx xL (v_ 3) (eUn aqU eI))))))) (ss1 (aaG eN)) ssN)
   (ss1 (aaG (aaX (aC (eIx xL (v_ 3) eI) (aC (eIx xL (v_ 3) (eUn aqU eI)) aN)))))))),?_⟩
 refine⟨_,rfl,rfl,_,rfl,?_⟩
 rw[aw1 l [42]]
 by_cases c:l=[42]
 ·rw[dR c]
  refine abB ⟨_,rfl,_,rfl,(zL 2),fun p hp=>?_⟩
  have e:aaV lo hi l=some (lo,hi):=by unfold aaV;rw[if_pos c]
  rw[e] at q
  exact q _ _ (aaB hp _) ⟨p,rfl,aaA⟩
 rw[dW c]
 have hsl:=ag1 45 l
 have eR:aaV lo hi l=aiJ ((spl 45 l).map (aaT lo hi)):=by unfold aaV;rw[if_neg c]
 rw[eR] at q
 refine aa5 ⟨_,rfl,rfl,l,45,rfl,rfl,(by rw[dO];omega),fun ps hps=>⟨ps,rfl,⟨_,SqL.of aaA⟩,amM (xs:=(spl 45 l).map fun q=>V.str (Tx q)) (fun i z=>z=((spl 45 l).take i).map fun q=>oV (aaT lo hi q)) (by rw[aU,dO];omega) rfl (SqL.of aaA) ?_ ?_⟩⟩
 ·intro i v z D H2 E' F' hv hR hD s2 hz hE hF
  subst hR
  rw[bE] at hv
  cases ew:(spl 45 l)[i]? with
  |none=>rw[ew] at hv;cases hv
  |some w0=>
   rw[ew] at hv
   obtain rfl:V.str (Tx w0)=v:=bA hv
   have hw:=abR 45 l w0 (bP ew)
   exact⟨_,rfl,_,rfl,_,rfl,w0,lo,hi,rfl,(by omega),fun H3 s3=>hE _ _ s3 (by rw[cF,ew,bC];rfl)⟩
 intro D H2 z hR hD s2 hz
 subst hR
 rw[aU,cM] at hz
 have hz2:H2 D=some (.lst (((spl 45 l).map (aaT lo hi)).map oV)):=by rw[hz,cC];rfl
 have hlen:((spl 45 l).map (aaT lo hi)).length<=600:=by rw[aU];omega
 have hnn:(spl 45 l).map (aaT lo hi)≠[]:=fun e=>aEK 45 l (List.map_eq_nil_iff.mp e)
 generalize (spl 45 l).map (aaT lo hi)=es at hz2 q hlen hnn
 have s02:Same H H2:=(aaB hps _).trans s2
 have hfl:(es.map oV).all afE=true:=azB es
 refine⟨_,rfl,D,_,rfl,.inl (SqL.of hz2),_,_,rfl,rfl,_,rfl,?_⟩
 match es,hnn with
 |[],h=>exact absurd rfl h
 |[none],_=>
  refine aa5 ⟨_,rfl,D,_,rfl,.inl (SqL.of hz2),rfl,hfl,_,rfl,abB ?_⟩
  exact q _ _ s02 rfl
 |[some a],_=>
  refine aa5 ⟨_,rfl,D,_,rfl,.inl (SqL.of hz2),rfl,hfl,_,rfl,aa5 ⟨_,rfl,D,_,_,_,rfl,rfl,SqL.of hz2,rfl,_,rfl,_,rfl,D,_,_,_,rfl,rfl,SqL.of hz2,rfl,_,_,rfl,rfl,_,rfl,?_⟩⟩
  rw[dW (show ¬a<a by omega)]
  refine aa5 ⟨_,rfl,D,_,_,_,rfl,rfl,SqL.of hz2,rfl,_,rfl,_,rfl,D,_,_,_,rfl,rfl,SqL.of hz2,rfl,(zL 2),fun p hp=>?_⟩
  exact q _ _ (s02.trans (aaB hp _)) ⟨p,rfl,aaA⟩
 |[none,y],_=>
  refine aa5 ⟨_,rfl,D,_,rfl,.inl (SqL.of hz2),rfl,hfl,_,rfl,abB ?_⟩
  exact q _ _ s02 rfl
 |[some a,none],_=>
  refine aa5 ⟨_,rfl,D,_,rfl,.inl (SqL.of hz2),rfl,hfl,_,rfl,abB ?_⟩
  exact q _ _ s02 rfl
 |[some a,some b],_=>
  refine aa5 ⟨_,rfl,D,_,rfl,.inl (SqL.of hz2),rfl,hfl,_,rfl,aa5 ⟨_,rfl,D,_,_,_,rfl,rfl,SqL.of hz2,rfl,_,rfl,_,rfl,D,_,_,_,rfl,rfl,SqL.of hz2,rfl,_,_,rfl,rfl,_,rfl,?_⟩⟩
  refine ifD (fun c2=>?_) (fun c2=>?_)
  ·have e:aiJ [some a,some b]=none:=by show (if b<a then none else some (a,b))=none;rw[if_pos c2]
   rw[e] at q
   exact q _ _ s02 rfl
  ·have e:aiJ [some a,some b]=some (a,b):=by show (if b<a then none else some (a,b))=some (a,b);rw[if_neg c2]
   rw[e] at q
   refine⟨_,rfl,D,_,_,_,rfl,rfl,SqL.of hz2,rfl,_,rfl,_,rfl,D,_,_,_,rfl,rfl,SqL.of hz2,rfl,(zL 2),fun p hp=>?_⟩
   exact q _ _ (s02.trans (aaB hp _)) ⟨p,rfl,aaA⟩
 |x::y::u::r,_=>
  have e3:decide ((2:Int)<(((x::y::u::r).map oV).length:Nat))=true:=dR (by rw[aU];show (2:Int)<((r.length+1+1+1:Nat):Int);omega)
  refine ifT e3 ?_
  have e:aiJ (x::y::u::r)=none:=by cases x<;>cases y<;>rfl
  rw[e] at q
  exact q _ _ s02 rfl
theorem ai9:Df P w K mg base "read_strided" 5 ["run_text","stride_text","low","high"] (ajI K):=by
 refine ZZ.b1.dfs sc_read_strided (fun vs H Q E h=>?_) (fun f cdv A outer s H vs Q E hr h=>?_)
 ·obtain⟨_,_,_,_,rfl,_⟩:=h
  rfl
 obtain⟨r,st,lo,hi,rfl,hr1,hs1,hb,q⟩:=h
 refine⟨_,(ssC (aaH 4 (eD (aiN ZZ) hr (aC (v_ 0) (aC (v_ 2) (aC (v_ 3) aN)))) sc_read_strided.nd)
   (ssC (aaH 5 (eD (aa9 ZZ) hr (aC (v_ 1) (aC eI (aC (eGl (v:=.int 99) ZZ.ce ⟨_,rfl⟩) aN)))) sc_read_strided.nd)
   (ssC (sIf (tW (wOr (tCm adF (v_ 4) eN) (af4 (tCm adF (v_ 5) eN)))) (ss1 (aaG eN)) ssN)
   (ssC (aaH 6 (eIf (tVa (eD (afP ZZ) hr (aC (v_ 0) aN))) (v_ 3) (eIx xT (v_ 4) eI)) sc_read_strided.nd)
   (ss1 (aaG (eD (aiE ZZ) hr (aC (eIx xT (v_ 4) eI) (aC (v_ 6) (aC (v_ 5) aN)))))))))),?_⟩
 refine⟨_,rfl,_,rfl,_,rfl,r,lo,hi,rfl,(by omega),fun rv H1 s1 hrv=>?_⟩
 refine⟨_,rfl,st,1,99,rfl,(by omega),fun H2 s2=>?_⟩
 cases er:aaV lo hi r with
 |none=>
  rw[er] at hrv
  have hrv:rv=.non:=hrv
  subst hrv
  have e:abN lo hi r st=none:=by unfold abN;rw[er]
  rw[e] at q
  exact⟨_,rfl,rfl,_,rfl,abB (q H2 (s1.trans s2))⟩
 |some ab=>
  obtain⟨a,b⟩:=ab
  rw[er] at hrv
  obtain⟨p,rfl,hp⟩:=hrv
  have bd:=akV hb.2.1 er
  refine⟨_,rfl,rfl,_,rfl,ifF rfl ⟨_,rfl,rfl,_,rfl,?_⟩⟩
  cases es:aaT 1 99 st with
  |none=>
   have e:abN lo hi r st=none:=by unfold abN;rw[er,es]
   rw[e] at q
   exact ifT rfl (q H2 (s1.trans s2))
  |some sv=>
   have bs:=apU es
   have hp2:=s2 _ _ hp
   refine ifF rfl ⟨_,rfl,r,rfl,(by omega),fun H3 s3=>⟨_,rfl,?_⟩⟩
   have hp3:=s3 _ _ hp2
   refine if2 (fun c=>?_) (fun c=>?_)
   ·have e:abN lo hi r st=some (aiV a hi sv):=by unfold abN;rw[er,es];show some (aiV a (if isW r=true then hi else b) sv)=_;rw[if_pos c]
    rw[e] at q
    refine⟨_,rfl,_,rfl,p,_,_,_,rfl,rfl,SqT.of hp3,rfl,_,rfl,_,rfl,a,hi,sv,rfl,⟨by omega,by omega⟩,⟨by omega,by omega⟩,⟨by omega,by omega⟩,fun H4 s4=>?_⟩
    exact q H4 (s1.trans (s2.trans (s3.trans s4)))
   ·have e:abN lo hi r st=some (aiV a b sv):=by unfold abN;rw[er,es];show some (aiV a (if isW r=true then hi else b) sv)=_;rw[if_neg (by rw[c];exact a9)]
    rw[e] at q
    refine⟨_,rfl,p,_,_,_,rfl,rfl,SqT.of hp3,rfl,_,rfl,p,_,_,_,rfl,rfl,SqT.of hp3,rfl,_,rfl,_,rfl,a,b,sv,rfl,⟨by omega,by omega⟩,⟨by omega,by omega⟩,⟨by omega,by omega⟩,fun H4 s4=>?_⟩
    exact q H4 (s1.trans (s2.trans (s3.trans s4)))
theorem agS:Df P w K mg base "read_item" 6 ["item","low","high"] (ao5 K):=by
 refine ZZ.c4.dfs sc_read_item (fun vs H Q E h=>?_) (fun f cdv A outer s H vs Q E hr h=>?_)
 ·obtain⟨_,_,_,rfl,_⟩:=h
  rfl
 obtain⟨l,lo,hi,rfl,hl,hb,q⟩:=h
 refine⟨_,(ssC (aaH 3 (au6 (v_ 0) (eSx [47])) sc_read_item.nd)
   (ssC (sIf (tCm oEq (eCB ao0 ZZ.ag PySem.boot_len (aC (v_ 3) aN)) eI) (ss1 (aaG (eD (ai9 ZZ) hr (aC (eIx xL (v_ 3) eI) (aC (eIx xL (v_ 3) eI) (aC (v_ 1) (aC (v_ 2) aN))))))) ssN)
   (ssC (aaH 4 (eD (aiN ZZ) hr (aC (v_ 0) (aC (v_ 1) (aC (v_ 2) aN)))) sc_read_item.nd)
   (ssC (sIf (tCm adF (v_ 4) eN) (ss1 (aaG eN)) ssN)
   (ss1 (aaG (eD (aiE ZZ) hr (aC (eIx xT (v_ 4) eI) (aC (eIx xT (v_ 4) eI) (aC eI aN)))))))))),?_⟩
 have hsl:=ag1 47 l
 have hml:=abR 47 l
 refine⟨_,rfl,rfl,l,47,rfl,rfl,(by rw[dO];omega),fun ps hps=>?_⟩
 have s0:=aaB hps (.lst ((spl 47 l).map fun q=>V.str (Tx q)))
 refine⟨_,rfl,ps,_,rfl,.inl (SqL.of aaA),rfl,_,rfl,?_⟩
 have two:(∃r s,spl 47 l=[r,s])∨(∀r s,spl 47 l≠[r,s]):=by
  by_cases z:∃r s,spl 47 l=[r,s]
  ·exact .inl z
  ·exact .inr fun r s e=>z ⟨r,s,e⟩
 rcases two with ⟨r,s,e2⟩ | hno
 ·have e:aaJ lo hi l=abN lo hi r s:=by unfold aaJ;rw[e2]
  rw[e] at q
  have h1:=hml r (by rw[e2];simp)
  have h2:=hml s (by rw[e2];simp)
  rw[e2]
  refine ifT rfl ⟨_,rfl,ps,_,_,_,rfl,rfl,SqL.of aaA,rfl,_,rfl,ps,_,_,_,rfl,rfl,SqL.of aaA,rfl,_,rfl,_,rfl,r,s,lo,hi,rfl,(by omega),(by omega),hb,fun H1 s1=>?_⟩
  exact q H1 ((aaB hps _).trans s1)
 ·have hlen:¬(spl 47 l).length=2:=fun e=>by
   match h:spl 47 l,e with
   |[r,s],_=>exact hno r s h
  have e:aaJ lo hi l=match aaV lo hi l with | some (a,b)=>some (aiV a b 1) | none=>none:=by
   unfold aaJ
   split
   ·rename_i r s h
    exact absurd h (hno r s)
   ·rfl
  refine ifF (dW fun z=>hlen (by have z:=V.int.inj z;rw[aU] at z;omega)) ?_
  refine⟨_,rfl,_,rfl,_,rfl,l,lo,hi,rfl,(by omega),fun rv H1 s1 hrv=>?_⟩
  cases er:aaV lo hi l with
  |none=>
   rw[er] at hrv e
   have hrv:rv=.non:=hrv
   subst hrv
   rw[e] at q
   exact⟨_,rfl,rfl,_,rfl,abB (q H1 (s0.trans s1))⟩
  |some ab=>
   obtain⟨a,b⟩:=ab
   rw[er] at hrv e
   obtain⟨p,rfl,hp⟩:=hrv
   have bd:=akV hb.2.1 er
   have e:aaJ lo hi l=some (aiV a b 1):=e
   rw[e] at q
   refine⟨_,rfl,rfl,_,rfl,ifF rfl ⟨_,rfl,p,_,_,_,rfl,rfl,SqT.of hp,rfl,_,rfl,p,_,_,_,rfl,rfl,SqT.of hp,rfl,a,b,1,rfl,⟨by omega,by omega⟩,⟨by omega,by omega⟩,⟨by decide,by decide⟩,fun H4 s4=>?_⟩⟩
   exact q H4 (s0.trans (s1.trans s4))
theorem alK:Df P w K mg base "read_field" 7 ["text","low","high"] (amA K):=by
 refine ZZ.ct.dfs sc_read_field (fun vs H Q E h=>?_) (fun f cdv A outer s H vs Q E hr h=>?_)
 ·obtain⟨_,_,_,rfl,_⟩:=h
  rfl
 obtain⟨l,lo,hi,rfl,hl,hb,⟨hk,hok⟩,q⟩:=h
 refine⟨_,(ssC (sIf (tW (wOr (tNo (tVa (eCB cIs ZZ.af PyProof.Rows.boot_isinstance (aC (v_ 0) (aC (eTy ZZ.ad PyProof.Rows.boot_str) aN))))) (af4 (tCm oGt (eCB aw7 ZZ.ag PySem.boot_len (aC (v_ 0) aN)) (eGl (v:=.int 300) ZZ.ba ⟨_,rfl⟩))))) (ss1 an2) ssN)
   (ssC (aaH 3 (au6 (v_ 0) (eSx [44])) sc_read_field.nd)
   (ssC (aaH 4 eI sc_read_field.nd)
   (ssC (afW (iE ZZ.am (eSl slL (v_ 3) poN (poS (eGl (v:=.int 40) ZZ.aj ⟨_,rfl⟩)))) (gTu (gsC (gN 5 sc_read_field.nd) (gsC (gN 6 sc_read_field.nd) gsN))) (ssC (aaH 7 (eD (agS ZZ) hr (aC (v_ 6) (aC (v_ 1) (aC (v_ 2) aN)))) sc_read_field.nd)
   (ssC (sIf (tCm adF (v_ 7) eN) (ss1 an2) ssN)
   (ss1 (aaH 4 (eOp oOr (v_ 4) (v_ 7)) sc_read_field.nd)))) PassesOwn.never)
   (ssC (sIf (tCm oGt (eCB ao0 ZZ.ag PySem.boot_len (aC (v_ 3) aN)) (eGl (v:=.int 40) ZZ.aj ⟨_,rfl⟩)) (ss1 an2) ssN)
   (ss1 (aaG (v_ 4)))))))),?_⟩
 have hml:=abR 44 l
 refine⟨_,rfl,_,.str,.str,rfl,(by decide),rfl,_,rfl,ifF rfl ⟨_,rfl,l,rfl,(by rw[dO];omega),_,_,rfl,rfl,_,rfl,?_⟩⟩
 rw[dW (show ¬(300:Int)<((l.length:Nat):Int) by omega)]
 refine aa5 ⟨_,rfl,rfl,l,44,rfl,rfl,(by rw[dO];omega),fun ps hps=>?_⟩
 have s0:=aaB hps (.lst ((spl 44 l).map fun q=>V.str (Tx q)))
 refine⟨_,rfl,_,rfl,ps,_,rfl,SqL.of aaA,fun pc hpc=>?_⟩
 have ecut:ahL ((spl 44 l).map fun q=>V.str (Tx q)) none (some 40)=(spl 44 l).map fun q=>V.str (Tx q):=aBY (by rw[aU];exact hk)
 rw[ecut]
 have s1:=aaB hpc (.lst ((spl 44 l).map fun q=>V.str (Tx q)))
 refine⟨pc,rfl,⟨_,SqL.of aaA⟩,akX (K:=K) (a:=pc) (xs:=(spl 44 l).map fun q=>V.str (Tx q)) (fun i σ H2=>∃(u1 u2 u3:Option V),σ=[some (.str (Tx l)),some (.int lo),some (.int hi),some (.ref ps),some (.int (orM ((ac8 lo hi l).take i))),u1,u2,u3]/\Same (upd (upd H ps (.lst ((spl 44 l).map fun q=>V.str (Tx q)))) pc (.lst ((spl 44 l).map fun q=>V.str (Tx q)))) H2) ⟨_,_,_,rfl,Same.refl _⟩ (fun i σ H2 _ ⟨_,_,_,_,s2⟩=>SqL.of (s2 _ _ aaA)) ?_ ?_⟩
 ·rintro i x σ H2 T hx ⟨u1,u2,u3,rfl,s2⟩ hT
  rw[bE] at hx
  cases ew:(spl 44 l)[i]? with
  |none=>rw[ew] at hx;cases hx
  |some w0=>
   rw[ew] at hx
   obtain rfl:V.str (Tx w0)=x:=bA hx
   have hw:=hml w0 (bP ew)
   obtain⟨m,em⟩:=cX.mp (hok w0 (bP ew))
   refine⟨T,_,rfl,SqT.of aaA,rfl,_,_,rfl,_,_,rfl,rfl,?_⟩
   refine⟨_,rfl,_,rfl,_,rfl,w0,lo,hi,rfl,(by omega),hb,fun H3 s3=>?_⟩
   rw[em]
   refine⟨_,rfl,rfl,_,rfl,ifF rfl ⟨_,rfl,_,rfl,_,_,rfl,rfl,?_⟩⟩
   have et:orM ((ac8 lo hi l).take (i+1))=Builtin.bitOr (orM ((ac8 lo hi l).take i)) m:=by
    rw[←aeS,cF]
    unfold ac8
    rw[bE,ew]
    show orM (_++[(aaJ lo hi w0).getD 0])=_
    rw[em]
    rfl
   exact⟨_,_,_,by rw[et];rfl,s2.trans ((aaB hT _).trans s3)⟩
 ·rintro σ H2 ⟨u1,u2,u3,rfl,s2⟩
  refine⟨_,rfl,ps,_,rfl,.inl (SqL.of (s2 _ _ (s1 _ _ aaA))),_,_,rfl,rfl,_,rfl,?_⟩
  rw[dW (show ¬(40:Int)<((((spl 44 l).map fun q=>V.str (Tx q)).length:Nat):Int) by rw[aU];omega)]
  refine aa5 ⟨_,rfl,?_⟩
  rw[aU,show (spl 44 l).length=(ac8 lo hi l).length by unfold ac8;rw[aU],cM]
  exact q H2 (s0.trans (s1.trans s2))
theorem afL:Df P w K mg base "weekday_at" 1 ["day","first"] (al6 K):=by
 refine ZZ.cu.dfs al9 (fun vs H Q E h=>?_) (fun f cdv A outer s H vs Q E hr h=>?_)
 ·obtain⟨_,_,rfl,_⟩:=h
  rfl
 obtain⟨d,f,rfl,q⟩:=h
 refine⟨_,(ss1 (aaG (eOp abG (eOp abE (eOp aaN (v_ 1) (v_ 0)) eI) eI))),?_⟩
 exact⟨_,rfl,_,rfl,_,_,rfl,rfl,_,_,rfl,rfl,_,_,rfl,rfl,(by show (0:Int)<7;decide),q⟩
theorem aeH:Df P w K mg base "all_days" 1 ["last"] (aqB K):=by
 refine ZZ.du.dfs apL (fun vs H Q E h=>?_) (fun f cdv A outer s H vs Q E hr h=>?_)
 ·obtain⟨_,rfl,_⟩:=h
  rfl
 obtain⟨l,rfl,hl,q⟩:=h
 refine⟨_,(ss1 (aaG (eOp abE (eOp alJ eI (v_ 0)) eI))),?_⟩
 exact⟨_,rfl,_,_,rfl,rfl,⟨by omega,by omega,by decide⟩,_,_,rfl,rfl,q⟩
theorem adS:Df P w K mg base "nearest_work" 2 ["day","last","first"] (aiU K):=by
 refine ZZ.b2.dfs sc_nearest_work (fun vs H Q E h=>?_) (fun f cdv A outer s H vs Q E hr h=>?_)
 ·obtain⟨_,_,_,rfl,_⟩:=h
  rfl
 obtain⟨d,l,fi,rfl,q⟩:=h
 refine⟨_,(ssC (aaH 3 (eD (afL ZZ) hr (aC (v_ 0) (aC (v_ 2) aN))) sc_nearest_work.nd)
   (ssC (sIf (tCm oEq (v_ 3) (eGl (v:=.int 6) ZZ.di ⟨_,rfl⟩)) (ss1 (aaG (eIf (tCm oGt (v_ 0) eI) (eOp abE (v_ 0) eI) eI))) ssN)
   (ssC (sIf (tCm oEq (v_ 3) (eGl (v:=.int 0) ZZ.bp ⟨_,rfl⟩)) (ss1 (aaG (eIf (tCm oLt (v_ 0) (v_ 1)) (eOp aaN (v_ 0) eI) (eOp abE (v_ 1) eI)))) ssN)
   (ss1 (aaG (v_ 0)))))),?_⟩
 refine⟨_,rfl,_,rfl,_,_,rfl,?_⟩
 refine⟨_,rfl,rfl,_,rfl,ifI (fun c=>?_) (fun c=>?_)⟩
 ·refine⟨_,rfl,_,_,rfl,rfl,_,rfl,ifD (fun c2=>⟨_,rfl,_,_,rfl,rfl,?_⟩) (fun c2=>?_)⟩
  ·have e:nw d l fi=d-1:=by unfold nw;rw[if_pos c,if_pos c2]
   rw[e] at q
   exact q
  ·have e:nw d l fi=3:=by unfold nw;rw[if_pos c,if_neg c2]
   rw[e] at q
   exact q
 ·refine⟨_,rfl,rfl,_,rfl,ifI (fun c1=>?_) (fun c1=>?_)⟩
  ·refine⟨_,rfl,_,rfl,_,_,rfl,rfl,_,rfl,ifD (fun c2=>⟨_,rfl,_,_,rfl,rfl,?_⟩) (fun c2=>⟨_,rfl,_,_,rfl,rfl,?_⟩)⟩
   ·have e:nw d l fi=d+1:=by unfold nw;rw[if_neg c,if_pos c1,if_pos c2]
    rw[e] at q
    exact q
   ·have e:nw d l fi=l-2:=by unfold nw;rw[if_neg c,if_pos c1,if_neg c2]
    rw[e] at q
    exact q
  ·have e:nw d l fi=d:=by unfold nw;rw[if_neg c,if_neg c1]
   rw[e] at q
   exact⟨_,rfl,q⟩
theorem ao1:Df P w K mg base "first_one" 1 ["weekday","first"] (aoQ K):=by
 refine ZZ.c5.dfs anJ (fun vs H Q E h=>?_) (fun f cdv A outer s H vs Q E hr h=>?_)
 ·obtain⟨_,_,rfl,_⟩:=h
  rfl
 obtain⟨wd,fi,rfl,q⟩:=h
 refine⟨_,(ss1 (aaG (eOp aaN eI (eOp abG (eOp abE (v_ 0) (v_ 1)) eI)))),?_⟩
 exact⟨_,rfl,_,rfl,_,_,rfl,rfl,_,_,rfl,rfl,(by show (0:Int)<7;decide),_,_,rfl,rfl,q⟩
theorem aoL:DfM P w K mg base aI "days" 1 ["self","last","first"] (aoD K aI):=by
 refine ZZ.c6.dfs aoB (fun vs H Q E h=>?_) (fun f cdv A outer s H vs Q E hr h=>?_)
 ·obtain⟨_,_,_,rfl,_⟩:=h
  rfl
 obtain⟨p,l,fi,rfl,q⟩:=h
 refine⟨_,(ss1 (aaG eI)),?_⟩
 exact q
theorem ae7:DfM P w K mg base aB "__init__" 1 ["self","mask"] (ae8 K aB):=by
 refine ZZ.bn.dfs ae9 (fun vs H Q E h=>?_) (fun f cdv A outer s H vs Q E hr h=>?_)
 ·obtain⟨_,_,_,rfl,_⟩:=h
  rfl
 obtain⟨p,dx,m,rfl,hp,q⟩:=h
 refine⟨_,(ss1 (sFl (v_ 0) (v_ 1))),?_⟩
 exact⟨_,rfl,_,rfl,p,aB,dx,[],rfl,hp,ZZ.aq.cl,ZZ.a4,(by show 0<1000;decide),q⟩
theorem ajE:DfM P w K mg base aB "days" 2 ["self","last","first"] (aiR K aB):=by
 refine ZZ.b3.dfs aiZ (fun vs H Q E h=>?_) (fun f cdv A outer s H vs Q E hr h=>?_)
 ·obtain⟨_,_,_,_,_,rfl,_⟩:=h
  rfl
 obtain⟨p,dx,m,l,fi,rfl,hp,hl,q⟩:=h
 refine⟨_,(ss1 (aaG (eOp avQ (eFl (v_ 0)) (eD (aeH ZZ) hr (aC (v_ 1) aN))))),?_⟩
 exact⟨_,rfl,p,aB,dx,_,_,rfl,hp,ZZ.aq.cl,ZZ.a4,rfl,_,rfl,_,rfl,hl.1,_,_,rfl,rfl,q⟩
theorem ac4:DfMD P w K mg base aE "__init__" 1 ["self","back"] (ah0 K aE) [.int 0]:=by
 refine ZZ.br.dfs ahV (fun vs H Q E h=>?_) (fun f cdv A outer s H vs Q E hr h=>?_)
 ·obtain⟨_,_,_,rfl,_⟩:=h
  rfl
 obtain⟨p,dx,m,rfl,hp,q⟩:=h
 refine⟨_,(ss1 (sFl (v_ 0) (v_ 1))),?_⟩
 exact⟨_,rfl,_,rfl,p,aE,dx,[],rfl,hp,ZZ.ar.cl,ZZ.aw,(by show 0<1000;decide),q⟩
theorem aoX:DfM P w K mg base aE "days" 1 ["self","last","first"] (ao2 K aE):=by
 refine ZZ.c7.dfs anU (fun vs H Q E h=>?_) (fun f cdv A outer s H vs Q E hr h=>?_)
 ·obtain⟨_,_,_,_,_,rfl,_⟩:=h
  rfl
 obtain⟨p,dx,b,l,fi,rfl,hp,hb,hl,q⟩:=h
 refine⟨_,(ssC (sIf (tCm oGe (eFl (v_ 0)) (v_ 1)) (ss1 (aaG eI)) ssN)
   (ss1 (aaG (eOp alJ eI (eOp abE (v_ 1) (eFl (v_ 0))))))),?_⟩
 refine⟨_,rfl,p,aE,dx,_,_,rfl,hp,ZZ.ar.cl,ZZ.aw,rfl,_,rfl,_,_,rfl,rfl,_,rfl,ifD (fun c=>?_) (fun c=>?_)⟩
 ·have e:aq5 b l=0:=by unfold aq5;rw[if_pos c]
  rw[e] at q
  exact q
 ·have e:aq5 b l=1*2^(l-b).toNat:=by unfold aq5;rw[if_neg c]
  rw[e] at q
  have:=hl.1.2
  exact⟨_,rfl,_,rfl,p,aE,dx,_,_,rfl,hp,ZZ.ar.cl,ZZ.aw,rfl,_,_,rfl,rfl,_,_,rfl,rfl,⟨by omega,by omega,by decide⟩,q⟩
theorem ahM:DfM P w K mg base aF "__init__" 1 ["self","day"] (ahR K aF):=by
 refine ZZ.bs.dfs ahP (fun vs H Q E h=>?_) (fun f cdv A outer s H vs Q E hr h=>?_)
 ·obtain⟨_,_,_,rfl,_⟩:=h
  rfl
 obtain⟨p,dx,m,rfl,hp,q⟩:=h
 refine⟨_,(ss1 (sFl (v_ 0) (v_ 1))),?_⟩
 exact⟨_,rfl,_,rfl,p,aF,dx,[],rfl,hp,ZZ.ax.cl,ZZ.ay,(by show 0<1000;decide),q⟩
theorem anX:DfM P w K mg base aF "days" 3 ["self","last","first"] (aoZ K aF):=by
 refine ZZ.c8.dfs anM (fun vs H Q E h=>?_) (fun f cdv A outer s H vs Q E hr h=>?_)
 ·obtain⟨_,_,_,_,_,rfl,_⟩:=h
  rfl
 obtain⟨p,dx,d,l,fi,rfl,hp,ok,q⟩:=h
 refine⟨_,(ssC (sIf (tCm oGt (eFl (v_ 0)) (v_ 1)) (ss1 (aaG eI)) ssN)
   (ss1 (aaG (eOp alJ eI (eD (adS ZZ) hr (aC (eFl (v_ 0)) (aC (v_ 1) (aC (v_ 2) aN)))))))),?_⟩
 refine⟨_,rfl,p,aF,dx,_,_,rfl,hp,ZZ.ax.cl,ZZ.ay,rfl,_,rfl,_,_,rfl,rfl,_,rfl,ifD (fun c=>?_) (fun c=>?_)⟩
 ·have e:apE d l fi=0:=by unfold apE;rw[if_pos c]
  rw[e] at q
  exact q
 ·have e:apE d l fi=1*2^(nw d l fi).toNat:=by unfold apE;rw[if_neg c]
  rw[e] at q
  have hn:=atW ok (by omega)
  exact⟨_,rfl,p,aF,dx,_,_,rfl,hp,ZZ.ax.cl,ZZ.ay,rfl,_,rfl,_,rfl,_,_,_,rfl,_,_,rfl,rfl,⟨by omega,by omega,by decide⟩,q⟩
theorem ahX:DfM P w K mg base aH "days" 3 ["self","last","first"] (ag4 K aH):=by
 refine ZZ.bt.dfs ahD (fun vs H Q E h=>?_) (fun f cdv A outer s H vs Q E hr h=>?_)
 ·obtain⟨_,_,_,_,rfl,_⟩:=h
  rfl
 obtain⟨p,dx,l,fi,rfl,hp,ok,q⟩:=h
 refine⟨_,(ss1 (aaG (eOp alJ eI (eD (adS ZZ) hr (aC (v_ 1) (aC (v_ 1) (aC (v_ 2) aN))))))),?_⟩
 have hn:=atW ok (aX _)
 exact⟨_,rfl,_,rfl,_,rfl,_,_,_,rfl,_,_,rfl,rfl,⟨by omega,by omega,by decide⟩,q⟩
theorem ad5:DfM P w K mg base aD "__init__" 1 ["self","mask"] (aeK K aD):=by
 refine ZZ.bj.dfs aeR (fun vs H Q E h=>?_) (fun f cdv A outer s H vs Q E hr h=>?_)
 ·obtain⟨_,_,_,rfl,_⟩:=h
  rfl
 obtain⟨p,dx,m,rfl,hp,q⟩:=h
 refine⟨_,(ss1 (sFl (v_ 0) (v_ 1))),?_⟩
 exact⟨_,rfl,_,rfl,p,aD,dx,[],rfl,hp,ZZ.an.cl,ZZ.az,(by show 0<1000;decide),q⟩
theorem ahU:DfM P w K mg base aD "days" 2 ["self","last","first"] (ag8 K aD):=by
 refine ZZ.bu.dfs sc_Weekdays_days (fun vs H Q E h=>?_) (fun f cdv A outer s H vs Q E hr h=>?_)
 ·obtain⟨_,_,_,_,_,rfl,_⟩:=h
  rfl
 obtain⟨p,dx,m,l,fi,rfl,hp,hm,⟨hl,hf⟩,q⟩:=h
 refine⟨_,(ssC (aaH 3 eI sc_Weekdays_days.nd)
   (ssC (afW (iR1 ZZ.ab (aC eI aN)) (gN 4 sc_Weekdays_days.nd) (ss1 (aaH 3 (eOp oOr (v_ 3) (eOp alJ (eFl (v_ 0)) (eOp ab7 eI (v_ 4)))) sc_Weekdays_days.nd)) PassesOwn.never)
   (ss1 (aaG (eOp avQ (eOp alJ (eOp axC (v_ 3) (v_ 2)) eI) (eD (aeH ZZ) hr (aC (v_ 1) aN))))))),?_⟩
 have hb:=azH m (aDK hm.1 hm.2)
 refine⟨_,rfl,by decide,by decide,abW (fun i σ H2=>H2=H/\∃u:Option V,σ=[some (.ref p),some (.int l),some (.int fi),some (.int (wks m i)),u]) ⟨rfl,_,rfl⟩ ?_ ?_⟩
 ·rintro i σ H2 hi ⟨rfl,u,rfl⟩
  have hi':i<6:=hi
  exact⟨_,rfl,_,rfl,p,aD,dx,_,_,rfl,hp,ZZ.an.cl,ZZ.az,rfl,_,rfl,_,_,rfl,rfl,.inl ⟨by decide,by decide⟩,_,_,rfl,rfl,⟨by omega,by omega,(by show m.natAbs<2^64;omega)⟩,_,_,rfl,rfl,rfl,_,rfl⟩
 ·rintro σ H2 ⟨rfl,u,rfl⟩
  exact⟨_,rfl,_,rfl,_,_,rfl,rfl,hf.1,_,_,rfl,rfl,⟨by decide,by decide,hb.2 fi (alT hf.1 hf.2)⟩,_,rfl,_,rfl,hl,_,_,rfl,rfl,q⟩
theorem aiY:DfM P w K mg base aA "__init__" 1 ["self","weekday","many"] (ai7 K aA):=by
 refine ZZ.b4.dfs ajF (fun vs H Q E h=>?_) (fun f cdv A outer s H vs Q E hr h=>?_)
 ·obtain⟨_,_,_,_,rfl,_⟩:=h
  rfl
 obtain⟨p,dx,wd,m,rfl,hp,q⟩:=h
 refine⟨_,(ssC (sFl (v_ 0) (v_ 1))
   (ss1 (sFl (v_ 0) (v_ 2)))),?_⟩
 exact⟨_,rfl,_,rfl,p,aA,dx,[],rfl,hp,ZZ.a0.cl,ZZ.a5,(by show 0<1000;decide),_,rfl,_,rfl,p,aA,dx,_,rfl,aaA,ZZ.a0.cl,ZZ.bd,(by show 1<1000;decide),q⟩
theorem aqJ:DfM P w K mg base aA "days" 2 ["self","last","first"] (apG K aA):=by
 refine ZZ.dv.dfs sc_Nth_days (fun vs H Q E h=>?_) (fun f cdv A outer s H vs Q E hr h=>?_)
 ·obtain⟨_,_,_,_,_,_,rfl,_⟩:=h
  rfl
 obtain⟨p,dx,wd,m,l,fi,rfl,hp,hw,hm,⟨hl,hf⟩,q⟩:=h
 refine⟨_,(ssC (aaH 3 (eOp aaN (eD (ao1 ZZ) hr (aC (eFl (v_ 0)) (aC (v_ 2) aN))) (eOp ab7 eI (eOp abE (eFl (v_ 0)) eI))) sc_Nth_days.nd)
   (ssC (sIf (tCm oGt (v_ 3) (v_ 1)) (ss1 (aaG eI)) ssN)
   (ss1 (aaG (eOp alJ eI (v_ 3)))))),?_⟩
 have hn:=aAV l (asY hl.1 hl.2) fi (alT hf.1 hf.2) wd (alT hw.1 hw.2) m (in_m hm.1 hm.2)
 refine⟨_,rfl,p,aA,dx,_,_,rfl,hp,ZZ.a0.cl,ZZ.a5,aCK _ _,_,rfl,_,_,rfl,_,rfl,p,aA,dx,_,_,rfl,hp,ZZ.a0.cl,ZZ.bd,aEB _ _,_,_,rfl,rfl,_,_,rfl,rfl,.inl ⟨by decide,by decide⟩,_,_,rfl,rfl,?_⟩
 refine⟨_,rfl,_,rfl,_,_,rfl,rfl,_,rfl,ifD (fun c=>?_) (fun c=>?_)⟩
 ·have e:aoM wd m l fi=0:=by unfold aoM;rw[if_pos (show l<adJ wd m fi from c)]
  rw[e] at q
  exact q
 ·have e:aoM wd m l fi=1*2^(adJ wd m fi).toNat:=by unfold aoM;rw[if_neg (show ¬l<adJ wd m fi from c)]
  rw[e] at q
  exact⟨_,rfl,_,_,rfl,rfl,⟨hn.2.2.1,cD hn.2.2.2 (by decide),by decide⟩,q⟩
theorem ae4:DfM P w K mg base aG "__init__" 1 ["self","weekday"] (afB K aG):=by
 refine ZZ.bo.dfs afA (fun vs H Q E h=>?_) (fun f cdv A outer s H vs Q E hr h=>?_)
 ·obtain⟨_,_,_,rfl,_⟩:=h
  rfl
 obtain⟨p,dx,m,rfl,hp,q⟩:=h
 refine⟨_,(ss1 (sFl (v_ 0) (v_ 1))),?_⟩
 exact⟨_,rfl,_,rfl,p,aG,dx,[],rfl,hp,ZZ.as.cl,ZZ.av,(by show 0<1000;decide),q⟩
theorem aiX:DfM P w K mg base aG "days" 2 ["self","last","first"] (ai8 K aG):=by
 refine ZZ.b5.dfs ai5 (fun vs H Q E h=>?_) (fun f cdv A outer s H vs Q E hr h=>?_)
 ·obtain⟨_,_,_,_,_,rfl,_⟩:=h
  rfl
 obtain⟨p,dx,wd,l,fi,rfl,hp,hw,⟨hl,hf⟩,q⟩:=h
 refine⟨_,(ss1 (aaG (eOp alJ eI (eOp abE (v_ 1) (eOp abG (eOp abE (eD (afL ZZ) hr (aC (v_ 1) (aC (v_ 2) aN))) (eFl (v_ 0))) eI))))),?_⟩
 have hn:=aA0 l (asY hl.1 hl.2) fi (alT hf.1 hf.2) wd (alT hw.1 hw.2)
 exact⟨_,rfl,_,rfl,_,rfl,_,_,rfl,_,rfl,p,aG,dx,_,_,rfl,hp,ZZ.as.cl,ZZ.av,rfl,_,_,rfl,rfl,_,_,rfl,rfl,(by show (0:Int)<7;decide),_,_,rfl,rfl,_,_,rfl,rfl,⟨hn.2.1,cD hn.2.2 (by decide),by decide⟩,q⟩
theorem apO:Df P w K mg base "any_days" 4 ["marks","last","first"] (aq2 K aB aE aF aH aD aA aG aI):=by
 refine ZZ.dw.dfs sc_any_days (fun vs H Q E h=>?_) (fun f cdv A outer s H vs Q E hr h=>?_)
 ·obtain⟨_,_,_,_,_,rfl,_⟩:=h
  rfl
 obtain⟨b,ps,ks,l,fi,rfl,hB,fM,oM,hlf,q⟩:=h
 refine⟨_,(ssC (aaH 3 eI sc_any_days.nd)
   (ssC (afW (iL (v_ 0)) (gN 4 sc_any_days.nd) (ss1 (aaH 3 (eOp oOr (v_ 3) (ao9 (eMe ZZ.aq.cl (ajE ZZ) hr (v_ 4) (aC (v_ 1) (aC (v_ 2) aN))) (ao9 (eMe ZZ.ar.cl (aoX ZZ) hr (v_ 4) (aC (v_ 1) (aC (v_ 2) aN))) (ao9 (eMe ZZ.ax.cl (anX ZZ) hr (v_ 4) (aC (v_ 1) (aC (v_ 2) aN))) (ao9 (eMe ZZ.bc.cl (ahX ZZ) hr (v_ 4) (aC (v_ 1) (aC (v_ 2) aN))) (ao9 (eMe ZZ.an.cl (ahU ZZ) hr (v_ 4) (aC (v_ 1) (aC (v_ 2) aN))) (ao9 (eMe ZZ.a0.cl (aqJ ZZ) hr (v_ 4) (aC (v_ 1) (aC (v_ 2) aN))) (ao9 (eMe ZZ.as.cl (aiX ZZ) hr (v_ 4) (aC (v_ 1) (aC (v_ 2) aN))) (eMe ZZ.en.cl (aoL ZZ) hr (v_ 4) (aC (v_ 1) (aC (v_ 2) aN))))))))))) sc_any_days.nd)) PassesOwn.never)
   (ss1 (aaG (v_ 3))))),?_⟩
 refine⟨_,rfl,b,rfl,⟨_,hB⟩,ag0 (K:=K) (a:=b) (xs:=ps.map V.ref) (fun i σ H2=>H2=H/\∃u4:Option V,σ=[some (.ref b),some (.int l),some (.int fi),some (.int (orK (ks.take i) l fi)),u4]) ⟨rfl,_,rfl⟩ (fun i σ H2 _ hP=>by rw[hP.1];exact hB) ?turn ?done⟩
 case done=>
  rintro σ H2 ⟨rfl,u4,rfl⟩
  have el:(ps.map V.ref).length=ks.length:=by rw[aU];exact Paired.length fM
  rw[el,cM]
  exact⟨_,rfl,q⟩
 case turn=>
  rintro i x σ H2 hx ⟨rfl,u4,rfl⟩
  rw[bE] at hx
  cases ez:ps[i]? with
  |none=>rw[ez] at hx;cases hx
  |some p=>
   rw[ez] at hx
   obtain rfl:V.ref p=x:=bA hx
   obtain⟨k,ek,hk⟩:=Ft.get fM ez
   have hok:=oM k (bP ek)
   have et:orK (ks.take (i+1)) l fi=Builtin.bitOr (orK (ks.take i) l fi) (k.due l fi):=by
    rw[cF,ek]
    exact ayP _ _ _ _
   rw[et]
   cases k with
   |num m=>
    obtain⟨dx,hp⟩:=hk
    exact⟨_,rfl,(.inl ⟨_,rfl,p,dx,_,rfl,hp,rfl,_,rfl,_,rfl,p,dx,m,l,fi,rfl,hp,hlf,_,_,rfl,rfl,rfl,_,rfl⟩)⟩
   |lst b=>
    obtain⟨dx,hp⟩:=hk
    exact⟨_,rfl,(.inr (.inl ⟨_,rfl,p,dx,_,rfl,hp,rfl,_,rfl,_,rfl,p,dx,b,l,fi,rfl,hp,hok,hlf,_,_,rfl,rfl,rfl,_,rfl⟩))⟩
   |nea d=>
    obtain⟨dx,hp⟩:=hk
    exact⟨_,rfl,(.inr (.inr (.inl ⟨_,rfl,p,dx,_,rfl,hp,rfl,_,rfl,_,rfl,p,dx,d,l,fi,rfl,hp,⟨hok,hlf⟩,_,_,rfl,rfl,rfl,_,rfl⟩)))⟩
   |wrk=>
    obtain⟨dx,hp⟩:=hk
    exact⟨_,rfl,(.inr (.inr (.inr (.inl ⟨_,rfl,p,dx,_,rfl,hp,rfl,_,rfl,_,rfl,p,dx,l,fi,rfl,hp,hlf.last,_,_,rfl,rfl,rfl,_,rfl⟩))))⟩
   |wkd m=>
    obtain⟨dx,hp⟩:=hk
    exact⟨_,rfl,(.inr (.inr (.inr (.inr (.inl ⟨_,rfl,p,dx,_,rfl,hp,rfl,_,rfl,_,rfl,p,dx,m,l,fi,rfl,hp,hok,hlf,_,_,rfl,rfl,rfl,_,rfl⟩)))))⟩
   |nth w m=>
    obtain⟨dx,hp⟩:=hk
    exact⟨_,rfl,(.inr (.inr (.inr (.inr (.inr (.inl ⟨_,rfl,p,dx,_,rfl,hp,aAQ _ _,_,rfl,_,rfl,p,dx,w,m,l,fi,rfl,hp,hok.1,hok.2,hlf,_,_,rfl,rfl,rfl,_,rfl⟩))))))⟩
   |one w=>
    obtain⟨dx,hp⟩:=hk
    exact⟨_,rfl,(.inr (.inr (.inr (.inr (.inr (.inr (.inl ⟨_,rfl,p,dx,_,rfl,hp,rfl,_,rfl,_,rfl,p,dx,w,l,fi,rfl,hp,hok,hlf,_,_,rfl,rfl,rfl,_,rfl⟩)))))))⟩
   |nil=>
    obtain⟨dx,hp⟩:=hk
    exact⟨_,rfl,(.inr (.inr (.inr (.inr (.inr (.inr (.inr ⟨_,rfl,p,dx,_,rfl,hp,rfl,_,rfl,_,rfl,p,l,fi,rfl,_,_,rfl,rfl,rfl,_,rfl⟩)))))))⟩
theorem ahC:Df P w K mg base "read_day_mark" 4 ["item"] (ahO K aB aE aF aH aD aA aG aI):=by
 refine ZZ.bv.dfs sc_read_day_mark (fun vs H Q E h=>?_) (fun f cdv A outer s H vs Q E hr h=>?_)
 ·obtain⟨_,rfl,_⟩:=h
  rfl
 obtain⟨t,rfl,hl,q⟩:=h
 refine⟨_,(ssC (sIf (tCm oEq (v_ 0) (eSx [76])) (ss1 (aaG (eMkD ZZ.ar (ac4 ZZ) hr))) ssN)
   (ssC (sIf (tCm oEq (v_ 0) (eSx [76,87])) (ss1 (aaG (eMkN ZZ.bc ZZ.dh))) ssN)
   (ssC (sIf (tVa (eSwN (v_ 0) (eSx [76,45]))) (ssC (aaH 1 (eD (aa9 ZZ) hr (aC (eSl slX (v_ 0) (poS eI) poN) (aC eI (aC (eGl (v:=.int 30) ZZ.c1 ⟨_,rfl⟩) aN)))) sc_read_day_mark.nd)
   (ss1 (aaG (eIf (tCm adF (v_ 1) eN) eN (eMk ZZ.ar (ac4 ZZ).dfm hr (aC (v_ 1) aN)))))) ssN)
   (ssC (sIf (tVa (eEw (v_ 0) (eSx [87]))) (ssC (aaH 2 (eD (aa9 ZZ) hr (aC (eSl slX (v_ 0) poN (poS (eUn aqU eI))) (aC eI (aC (eGl (v:=.int 31) ZZ.be ⟨_,rfl⟩) aN)))) sc_read_day_mark.nd)
   (ss1 (aaG (eIf (tCm adF (v_ 2) eN) eN (eMk ZZ.ax (ahM ZZ) hr (aC (v_ 2) aN)))))) ssN)
   (ss1 (aaG eN)))))),?_⟩
 have hz:t.length<=sizeLine:=by rw[dO];omega
 have hc1:=agJ t (some 2) none
 have hc2:=agJ t none (some (-1))
 refine⟨_,rfl,rfl,_,rfl,ifX (fun c=>?a0) (fun c1=>⟨_,rfl,rfl,_,rfl,ifX (fun c=>?a1) (fun c2=>⟨_,rfl,rfl,t,[76,45],rfl,rfl,_,rfl,ifD (fun c=>?a2) (fun c3=>⟨_,rfl,rfl,t,87,rfl,rfl,_,rfl,ifD (fun c=>?a3) (fun c4=>?a4)⟩)⟩)⟩)⟩
 case a0=>
  have e:ac2 t=some (.lst 0):=by unfold ac2;rw[if_pos c]
  rw[e] at q
  exact fun xo dx nx ndx nex=>⟨xo,dx,0,rfl,aaA,rfl,q _ _ (acK nx ndx) ⟨xo,rfl,dx,aaA⟩⟩
 case a1=>
  have e:ac2 t=some .wrk:=by unfold ac2;rw[if_neg c1,if_pos c]
  rw[e] at q
  exact fun xo dx nx ndx nex=>q _ _ (akQ nx ndx) ⟨xo,rfl,dx,aaA⟩
 case a2=>
  have e:ac2 t=(aaT 1 30 (ae5 t (some 2) none)).map Mk.lst:=by unfold ac2;rw[if_neg c1,if_neg c2,if_pos c]
  rw[e] at q
  refine⟨_,rfl,_,rfl,t,rfl,hz,_,1,30,rfl,(by omega),fun H1 s1=>?_⟩
  cases en:aaT 1 30 (ae5 t (some 2) none) with
  |none=>
   rw[en] at q
   exact⟨_,rfl,rfl,_,rfl,ifT rfl (q _ _ s1 rfl)⟩
  |some b=>
   rw[en] at q
   exact⟨_,rfl,rfl,_,rfl,ifF rfl ⟨_,rfl,fun xo dx nx ndx nex=>⟨xo,dx,_,rfl,aaA,rfl,q _ _ (s1.trans (acK nx ndx)) ⟨xo,rfl,dx,aaA⟩⟩⟩⟩
 case a3=>
  have e:ac2 t=(aaT 1 31 (ae5 t none (some (-1)))).map Mk.nea:=by unfold ac2;rw[if_neg c1,if_neg c2,if_neg c3,if_pos c]
  rw[e] at q
  refine⟨_,rfl,_,rfl,_,rfl,t,rfl,hz,_,1,31,rfl,(by omega),fun H1 s1=>?_⟩
  cases en:aaT 1 31 (ae5 t none (some (-1))) with
  |none=>
   rw[en] at q
   exact⟨_,rfl,rfl,_,rfl,ifT rfl (q _ _ s1 rfl)⟩
  |some b=>
   rw[en] at q
   exact⟨_,rfl,rfl,_,rfl,ifF rfl ⟨_,rfl,fun xo dx nx ndx nex=>⟨xo,dx,_,rfl,aaA,rfl,q _ _ (s1.trans (acK nx ndx)) ⟨xo,rfl,dx,aaA⟩⟩⟩⟩
 case a4=>
  have e:ac2 t=none:=by unfold ac2;rw[if_neg c1,if_neg c2,if_neg c3,if_neg c4]
  rw[e] at q
  exact q _ _ (Same.refl H) rfl
theorem adN:Df P w K mg base "read_weekday" 4 ["text"] (ajG K):=by
 refine ZZ.b6.dfs sc_read_weekday (fun vs H Q E h=>?_) (fun f cdv A outer s H vs Q E hr h=>?_)
 ·obtain⟨_,rfl,_⟩:=h
  rfl
 obtain⟨t,rfl,hl,q⟩:=h
 refine⟨_,(ssC (aaH 1 (eD (aa9 ZZ) hr (aC (v_ 0) (aC eI (aC (eGl (v:=.int 7) ZZ.ak ⟨_,rfl⟩) aN)))) sc_read_weekday.nd)
   (ss1 (aaG (eIf (tCm oEq (v_ 1) (eGl (v:=.int 7) ZZ.ak ⟨_,rfl⟩)) (eGl (v:=.int 0) ZZ.bp ⟨_,rfl⟩) (v_ 1))))),?_⟩
 refine⟨_,rfl,t,0,7,rfl,(by omega),fun H1 s1=>?_⟩
 cases en:aaT 0 7 t with
 |none=>
  have e:wdN t=none:=by unfold wdN;rw[en];rfl
  rw[e] at q
  exact⟨_,rfl,rfl,_,rfl,ifF (dW fun z=>nomatch z) ⟨_,rfl,q _ s1⟩⟩
 |some n=>
  have e:wdN t=some (if n=7 then 0 else n):=by unfold wdN;rw[en];rfl
  rw[e] at q
  refine⟨_,rfl,rfl,_,rfl,ifI (fun c=>?_) (fun c=>⟨_,rfl,?_⟩)⟩
  ·rw[if_pos c] at q
   exact q _ s1
  ·rw[if_neg c] at q
   exact q _ s1
theorem aeI:Df P w K mg base "read_weekday_mark" 5 ["item"] (aeE K aB aE aF aH aD aA aG aI):=by
 refine ZZ.bk.dfs sc_read_weekday_mark (fun vs H Q E h=>?_) (fun f cdv A outer s H vs Q E hr h=>?_)
 ·obtain⟨_,rfl,_⟩:=h
  rfl
 obtain⟨t,rfl,hl,q⟩:=h
 refine⟨_,(ssC (sIf (tVa (eEw (v_ 0) (eSx [76]))) (ssC (aaH 1 (eD (adN ZZ) hr (aC (eSl slX (v_ 0) poN (poS (eUn aqU eI))) aN)) sc_read_weekday_mark.nd)
   (ss1 (aaG (eIf (tCm adF (v_ 1) eN) eN (eMk ZZ.as (ae4 ZZ) hr (aC (v_ 1) aN)))))) ssN)
   (ssC (aaH 2 (au6 (v_ 0) (eSx [35])) sc_read_weekday_mark.nd)
   (ssC (sIf (tCm oNe (eCB ao0 ZZ.ag PySem.boot_len (aC (v_ 2) aN)) eI) (ss1 (aaG eN)) ssN)
   (ssC (aaH 1 (eD (adN ZZ) hr (aC (eIx xL (v_ 2) eI) aN)) sc_read_weekday_mark.nd)
   (ssC (aaH 3 (eD (aa9 ZZ) hr (aC (eIx xL (v_ 2) eI) (aC eI (aC (eGl (v:=.int 5) ZZ.dj ⟨_,rfl⟩) aN)))) sc_read_weekday_mark.nd)
   (ssC (sIf (tW (wOr (tCm adF (v_ 1) eN) (af4 (tCm adF (v_ 3) eN)))) (ss1 (aaG eN)) ssN)
   (ss1 (aaG (eMk ZZ.a0 (aiY ZZ) hr (aC (v_ 1) (aC (v_ 3) aN))))))))))),?_⟩
 have hz:t.length<=sizeLine:=by rw[dO];omega
 have hc2:=agJ t none (some (-1))
 have hsl:=ag1 35 t
 have hml:=abR 35 t
 refine⟨_,rfl,rfl,t,76,rfl,rfl,_,rfl,ifD (fun c=>?a0) (fun c1=>?a1)⟩
 case a0=>
  have e:anP t=(wdN (ae5 t none (some (-1)))).map Mk.one:=by unfold anP;rw[if_pos c]
  rw[e] at q
  refine⟨_,rfl,_,rfl,_,rfl,t,rfl,hz,_,rfl,(by omega),fun H1 s1=>?_⟩
  cases en:wdN (ae5 t none (some (-1))) with
  |none=>
   rw[en] at q
   exact⟨_,rfl,rfl,_,rfl,ifT rfl (q _ _ s1 rfl)⟩
  |some b=>
   rw[en] at q
   exact⟨_,rfl,rfl,_,rfl,ifF rfl ⟨_,rfl,fun xo dx nx ndx nex=>⟨xo,dx,_,rfl,aaA,rfl,q _ _ (s1.trans (acK nx ndx)) ⟨xo,rfl,dx,aaA⟩⟩⟩⟩
 case a1=>
  refine⟨_,rfl,rfl,t,35,rfl,rfl,(by rw[dO];omega),fun ps hps=>?_⟩
  have s0:=aaB hps (.lst ((spl 35 t).map fun q=>V.str (Tx q)))
  refine⟨_,rfl,ps,_,rfl,.inl (SqL.of aaA),rfl,_,rfl,?_⟩
  have two:(∃a b,spl 35 t=[a,b])∨(∀a b,spl 35 t≠[a,b]):=by
   by_cases z:∃a b,spl 35 t=[a,b]
   ·exact .inl z
   ·exact .inr fun r s e=>z ⟨r,s,e⟩
  rcases two with ⟨a,b,e2⟩ | hno
  ·have e:anP t=aBA (wdN a) (aaT 1 5 b):=by unfold anP;rw[if_neg c1,e2]
   rw[e] at q
   have h1:=hml a (by rw[e2];simp)
   have h2:=hml b (by rw[e2];simp)
   rw[e2]
   refine ifF rfl ⟨_,rfl,ps,_,_,_,rfl,rfl,SqL.of aaA,rfl,a,rfl,(by omega),fun H1 s1=>?_⟩
   refine⟨_,rfl,ps,_,_,_,rfl,rfl,SqL.of (s1 _ _ aaA),rfl,b,1,5,rfl,(by omega),fun H2 s2=>?_⟩
   rw[e2] at s0
   cases ew:wdN a with
   |none=>
    rw[ew] at q
    exact⟨_,rfl,rfl,_,rfl,ifT rfl (q _ _ (s0.trans (s1.trans s2)) rfl)⟩
   |some wd=>
    rw[ew] at q
    refine⟨_,rfl,rfl,_,rfl,ifF rfl ⟨_,rfl,rfl,_,rfl,?_⟩⟩
    cases en:aaT 1 5 b with
    |none=>
     rw[en] at q
     exact ifT rfl (q _ _ (s0.trans (s1.trans s2)) rfl)
    |some m=>
     rw[en] at q
     exact ifF rfl ⟨_,rfl,_,rfl,fun xo dx nx ndx nex=>⟨xo,dx,_,_,rfl,aaA,rfl,q _ _ (s0.trans (s1.trans (s2.trans (axP nx ndx)))) ⟨xo,rfl,dx,aaA⟩⟩⟩
  ·have hlen:¬(spl 35 t).length=2:=fun e=>by
    match h:spl 35 t,e with
    |[r,s],_=>exact hno r s h
   have e:anP t=none:=by
    unfold anP
    rw[if_neg c1]
    split
    ·rename_i a b h
     exact absurd h (hno a b)
    ·rfl
   rw[e] at q
   refine ifT ?_ (q _ _ s0 rfl)
   rw[dW fun z=>hlen (by have z:=V.int.inj z;rw[aU] at z;omega)]
   rfl
theorem afF:Df P w K mg base "read_items" 7 ["text","low","high","read_mark"] (al0 K aB aE aF aH aD aA aG aI aO aP):=by
 refine ZZ.cv.dfs sc_read_items (fun vs H Q E h=>?_) (fun f cdv A outer s H vs Q E hr h=>?_)
 ·obtain⟨_,_,_,_,rfl,_⟩:=h
  rfl
 obtain⟨l,lo,hi,wk,rfl,hb,hok,q⟩:=h
 refine⟨_,(ssC (sIf (tW (wOr (tNo (tVa (eCB cIs ZZ.af PyProof.Rows.boot_isinstance (aC (v_ 0) (aC (eTy ZZ.ad PyProof.Rows.boot_str) aN))))) (af4 (tCm oGt (eCB aw7 ZZ.ag PySem.boot_len (aC (v_ 0) aN)) (eGl (v:=.int 300) ZZ.ba ⟨_,rfl⟩))))) (ss1 an2) ssN)
   (ssC (aaH 4 (au6 (v_ 0) (eSx [44])) sc_read_items.nd)
   (ssC (aaH 5 eI sc_read_items.nd)
   (ssC (aaH 6 (abM aN) sc_read_items.nd)
   (ssC (afW (iE ZZ.am (eSl slL (v_ 4) poN (poS (eGl (v:=.int 40) ZZ.aj ⟨_,rfl⟩)))) (gTu (gsC (gN 7 sc_read_items.nd) (gsC (gN 8 sc_read_items.nd) gsN))) (ssC (aaH 9 (eD (agS ZZ) hr (aC (v_ 8) (aC (v_ 1) (aC (v_ 2) aN)))) sc_read_items.nd)
   (ss1 (sIf (tCm adF (v_ 9) eN) (ssC (aaH 10 (ao9 (eDV ((ahC ZZ).at_ ZZ.a3) hr (v_ 3) (aC (v_ 8) aN)) (eDV ((aeI ZZ).at_ ZZ.ap) hr (v_ 3) (aC (v_ 8) aN))) sc_read_items.nd)
   (ssC (sIf (tW (wOr (tCm adF (v_ 10) eN) (af4 (tCm oEq (eCB ao0 ZZ.ag PySem.boot_len (aC (v_ 6) aN)) (eGl (v:=.int 20) ZZ.co ⟨_,rfl⟩))))) (ss1 an2) ssN)
   (ss1 (alX (ao6 (v_ 6) (v_ 10)))))) (ss1 (aaH 5 (eOp oOr (v_ 5) (v_ 9)) sc_read_items.nd))))) PassesOwn.never)
   (ssC (sIf (tCm oGt (eCB ao0 ZZ.ag PySem.boot_len (aC (v_ 4) aN)) (eGl (v:=.int 40) ZZ.aj ⟨_,rfl⟩)) (ss1 an2) ssN)
   (ss1 (aaG (aaX (aC (v_ 5) (aC (v_ 6) aN))))))))))),?_⟩
 have hl:=hok.len
 have hml:=abR 44 l
 refine⟨_,rfl,_,.str,.str,rfl,(by decide),rfl,_,rfl,ifF rfl ⟨_,rfl,l,rfl,(by rw[dO];omega),_,_,rfl,rfl,_,rfl,?_⟩⟩
 rw[dW (show ¬(300:Int)<((l.length:Nat):Int) by omega)]
 refine aa5 ⟨_,rfl,rfl,l,44,rfl,rfl,(by rw[dO];omega),fun ps hps=>?_⟩
 have s0:=aaB hps (.lst ((spl 44 l).map fun q=>V.str (Tx q)))
 refine⟨(zL 0),fun mk hmk=>?_⟩
 have s1:=aaB hmk (.lst [])
 refine⟨_,rfl,_,rfl,ps,_,rfl,SqL.of (s1 _ _ aaA),fun pc hpc=>?_⟩
 have ecut:ahL ((spl 44 l).map fun q=>V.str (Tx q)) none (some 40)=(spl 44 l).map fun q=>V.str (Tx q):=aBY (by rw[aU];exact hok.few)
 rw[ecut]
 have hne:pc≠mk:=fun e=>by
  rw[e,aaA] at hpc
  cases hpc
 have s1b:=aaB hpc (.lst ((spl 44 l).map fun q=>V.str (Tx q)))
 refine⟨pc,rfl,⟨_,SqL.of aaA⟩,akX (K:=K) (a:=pc) (xs:=(spl 44 l).map fun q=>V.str (Tx q)) (fun i σ H2=>∃(u1 u2 u3 u4:Option V) (qs:List Addr),σ=[some (.str (Tx l)),some (.int lo),some (.int hi),some (.ref (if wk=true then aP else aO)),some (.ref ps),some (.int (orM (plP lo hi ((spl 44 l).take i)))),some (.ref mk),u1,u2,u3,u4]/\Same (upd H ps (.lst ((spl 44 l).map fun q=>V.str (Tx q)))) H2/\H2 pc=some (.lst ((spl 44 l).map fun q=>V.str (Tx q)))/\H2 mk=some (.lst (qs.map V.ref))/\Ft (MkAt (⟨aB,aE,aF,aH,aD,aA,aG,aI⟩:Cs) H2) qs (mkP wk lo hi ((spl 44 l).take i))) ⟨_,_,_,_,[],rfl,s1.trans s1b,aaA,s1b _ _ aaA,.nil⟩ (fun i σ H2 _ ⟨_,_,_,_,_,_,_,h,_⟩=>SqL.of h) ?turn ?done⟩
 case turn=>
  rintro i x σ H2 T hx ⟨u1,u2,u3,u4,qs,rfl,s2,h2c,h2m,hq⟩ hT
  rw[bE] at hx
  cases ew:(spl 44 l)[i]? with
  |none=>rw[ew] at hx;cases hx
  |some w0=>
   rw[ew] at hx
   obtain rfl:V.str (Tx w0)=x:=bA hx
   have hw:=hml w0 (bP ew)
   refine⟨T,_,rfl,SqT.of aaA,rfl,_,_,rfl,_,_,rfl,rfl,?_⟩
   refine⟨_,rfl,_,rfl,_,rfl,w0,lo,hi,rfl,(by omega),hb,fun H3 s3=>?_⟩
   cases em:aaJ lo hi w0 with
   |some m=>
    have et:(spl 44 l).take (i+1)=(spl 44 l).take i++[w0]:=by rw[cF,ew];rfl
    have s23:=(aaB hT _).trans s3
    refine⟨_,rfl,rfl,_,rfl,ifF rfl ⟨_,rfl,_,rfl,_,_,rfl,rfl,?_⟩⟩
    exact⟨_,_,_,_,qs,by rw[et,aAK em,aeS];rfl,s2.trans s23,s23 _ _ h2c,s23 _ _ h2m,by rw[et,aEG em];exact hq.keepM s23.keep⟩
   |none=>
    cases wk with
    |false=>
     have hso:(rdM false w0).isSome=true:=by
      rcases hok.all w0 (bP ew) with h | h
      ·rw[em] at h;cases h
      ·exact h
     obtain⟨k,ek⟩:=cX.mp hso
     have ek':ac2 w0=some k:=ek
     refine⟨_,rfl,rfl,_,rfl,ifT rfl ?_⟩
     refine .inl ⟨_,rfl,rfl,_,rfl,w0,rfl,(by omega),fun v H4 s4 hv=>?_⟩
     rw[ek'] at hv
     obtain⟨x,rfl,hx⟩:=hv
     have s24:=(aaB hT _).trans (s3.trans s4)
     have hq4:=hq.keepM s24.keep
     have lq:qs.length=(mkP false lo hi ((spl 44 l).take i)).length:=Paired.length hq
     have l1:=ap5 false lo hi (spl 44 l) (i+1)
     have et:(spl 44 l).take (i+1)=(spl 44 l).take i++[w0]:=by rw[cF,ew];rfl
     rw[et,ajN em ek,aW,bV] at l1
     have hm20:=hok.most
     refine⟨_,rfl,rfl,_,rfl,ifF rfl ⟨_,rfl,mk,_,rfl,.inl (SqL.of (s24 _ _ h2m)),rfl,_,rfl,?_⟩⟩
     refine ifI (fun c=>?_) (fun c=>?_)
     ·rw[aU] at c
      omega
     refine⟨_,rfl,.inl ⟨rfl,_,SqL.of (s24 _ _ h2m)⟩,_,rfl,mk,_,_,rfl,rfl,s24 _ _ h2m,(by rw[aU,dO];omega),?_⟩
     have kp:=akG (l':=qs.map V.ref++[.ref x]) (s24 _ _ h2m)
     exact⟨_,_,_,_,qs++[x],by rw[et,awW em];rfl,abT hmk (s2.trans s24),by rw[aaF hne];exact s24 _ _ h2c,by rw[bC];exact aaA,by rw[et,ajN em ek];exact Ft.app (hq4.keepM kp) (.cons (hx.keep kp) .nil)⟩
    |true=>
     have hso:(rdM true w0).isSome=true:=by
      rcases hok.all w0 (bP ew) with h | h
      ·rw[em] at h;cases h
      ·exact h
     obtain⟨k,ek⟩:=cX.mp hso
     have ek':anP w0=some k:=ek
     refine⟨_,rfl,rfl,_,rfl,ifT rfl ?_⟩
     refine .inr ⟨_,rfl,rfl,_,rfl,w0,rfl,(by omega),fun v H4 s4 hv=>?_⟩
     rw[ek'] at hv
     obtain⟨x,rfl,hx⟩:=hv
     have s24:=(aaB hT _).trans (s3.trans s4)
     have hq4:=hq.keepM s24.keep
     have lq:qs.length=(mkP true lo hi ((spl 44 l).take i)).length:=Paired.length hq
     have l1:=ap5 true lo hi (spl 44 l) (i+1)
     have et:(spl 44 l).take (i+1)=(spl 44 l).take i++[w0]:=by rw[cF,ew];rfl
     rw[et,ajN em ek,aW,bV] at l1
     have hm20:=hok.most
     refine⟨_,rfl,rfl,_,rfl,ifF rfl ⟨_,rfl,mk,_,rfl,.inl (SqL.of (s24 _ _ h2m)),rfl,_,rfl,?_⟩⟩
     refine ifI (fun c=>?_) (fun c=>?_)
     ·rw[aU] at c
      omega
     refine⟨_,rfl,.inl ⟨rfl,_,SqL.of (s24 _ _ h2m)⟩,_,rfl,mk,_,_,rfl,rfl,s24 _ _ h2m,(by rw[aU,dO];omega),?_⟩
     have kp:=akG (l':=qs.map V.ref++[.ref x]) (s24 _ _ h2m)
     exact⟨_,_,_,_,qs++[x],by rw[et,awW em];rfl,abT hmk (s2.trans s24),by rw[aaF hne];exact s24 _ _ h2c,by rw[bC];exact aaA,by rw[et,ajN em ek];exact Ft.app (hq4.keepM kp) (.cons (hx.keep kp) .nil)⟩
 case done=>
  rintro σ H2 ⟨u1,u2,u3,u4,qs,rfl,s2,h2c,h2m,hq⟩
  refine⟨_,rfl,ps,_,rfl,.inl (SqL.of (s2 _ _ aaA)),_,_,rfl,rfl,_,rfl,?_⟩
  have hfew:=hok.few
  rw[dW (show ¬(40:Int)<((((spl 44 l).map fun q=>V.str (Tx q)).length:Nat):Int) by rw[aU];omega)]
  rw[aU,cM] at hq ⊢
  refine aa5 ⟨_,rfl,_,rfl,(zL 2),fun p hp=>?_⟩
  have s3:=aaB hp (.tup [.int (orM (plP lo hi (spl 44 l))),.ref mk])
  exact q p mk qs _ (none_of s0 hmk) (s0.trans (s2.trans s3)) aaA (s3 _ _ h2m) (hq.keepM s3.keep)
theorem aoE:Df P w K mg base "read_days" 8 ["text"] (anF K aB aE aF aH aD aA aG aI):=by
 refine ZZ.c9.dfs sc_read_days (fun vs H Q E h=>?_) (fun f cdv A outer s H vs Q E hr h=>?_)
 ·obtain⟨_,rfl,_⟩:=h
  rfl
 obtain⟨l,rfl,hok,q1,q2⟩:=h
 refine⟨_,(ssC (aaH 1 (eD (afF ZZ) hr (aC (v_ 0) (aC eI (aC (eGl (v:=.int 31) ZZ.be ⟨_,rfl⟩) (aC (eGl (v:=.ref aO) ZZ.a3 rfl) aN))))) sc_read_days.nd)
   (ssC (sIf (tCm oEq (v_ 0) (eSx [42])) (ss1 (aaG eN)) ssN)
   (ssC (sIf (tCm oEq (eIx xT (v_ 1) eI) eI) (ss1 (aaG (eIx xT (v_ 1) eI))) ssN)
   (ss1 (aaG (eOp ayG (abM (aC (eMk ZZ.aq (ae7 ZZ) hr (aC (eIx xT (v_ 1) eI) aN)) aN)) (eIx xT (v_ 1) eI))))))),?_⟩
 refine⟨_,rfl,l,1,31,false,rfl,⟨by decide,by decide,by decide⟩,hok,fun p m qs H1 hmn s1 hp hm hq=>?_⟩
 have lq:qs.length<=20:=by
  have:=Paired.length hq
  have:=hok.most
  omega
 refine⟨_,rfl,rfl,_,rfl,ifX (fun c=>q1 c _ s1) (fun c=>?_)⟩
 have q2:=q2 c
 unfold ajU at q2
 generalize mkP false 1 31 (spl 44 l)=ms at hq q2
 generalize orM (plP 1 31 (spl 44 l))=M at hp q2
 refine⟨_,rfl,p,_,_,_,rfl,rfl,SqT.of hp,rfl,rfl,_,rfl,ifI (fun c0=>⟨_,rfl,p,_,_,_,rfl,rfl,SqT.of hp,rfl,q2 m qs _ hmn s1 hm ?_⟩) (fun c0=>?_)⟩
 ·have e:afU false M=[]:=by unfold afU;rw[if_pos c0]
  rw[e]
  exact hq
 have e:afU false M=[.num M]:=by unfold afU;rw[if_neg c0];rfl
 rw[e] at q2
 refine⟨_,rfl,p,_,_,_,rfl,rfl,SqT.of hp,rfl,fun xo dx nx ndx nex=>⟨xo,dx,_,rfl,aaA,rfl,(zL 1),fun l1 hl1=>?_⟩⟩
 have n1:Same H1 (upd (upd (upd H1 dx (.own xo)) xo (.ins aB dx [])) xo (.ins aB dx [("mask",.int M)])):=acK nx ndx
 have n2:=n1.trans (aaB hl1 (.lst [.ref xo]))
 refine⟨_,rfl,p,_,_,_,rfl,rfl,SqT.of (n2 _ _ hp),rfl,l1,m,_,_,rfl,rfl,aaA,n2 _ _ hm,(by rw[aU,dO];show 1+_<=_;omega),fun l2 hl2=>?_⟩
 have n3:=n2.trans (aaB hl2 (.lst ([.ref xo]++qs.map V.ref)))
 exact q2 l2 (xo::qs) _ (none_of (s1.trans n2) hl2) (s1.trans n3) aaA (.cons ⟨dx,(aaB hl2 _) _ _ ((aaB hl1 _) _ _ aaA)⟩ (hq.keepM n3.keep))
theorem ahK:Df P w K mg base "read_weekdays" 8 ["text"] (ag9 K aB aE aF aH aD aA aG aI):=by
 refine ZZ.bw.dfs sc_read_weekdays (fun vs H Q E h=>?_) (fun f cdv A outer s H vs Q E hr h=>?_)
 ·obtain⟨_,rfl,_⟩:=h
  rfl
 obtain⟨l,rfl,hok,q1,q2⟩:=h
 refine⟨_,(ssC (aaH 1 (eD (afF ZZ) hr (aC (v_ 0) (aC eI (aC (eGl (v:=.int 7) ZZ.ak ⟨_,rfl⟩) (aC (eGl (v:=.ref aP) ZZ.ap rfl) aN))))) sc_read_weekdays.nd)
   (ssC (sIf (tCm oEq (v_ 0) (eSx [42])) (ss1 (aaG eN)) ssN)
   (ssC (sIf (tCm oEq (eIx xT (v_ 1) eI) eI) (ss1 (aaG (eIx xT (v_ 1) eI))) ssN)
   (ssC (aaH 2 (eOp avQ (eOp oOr (eIx xT (v_ 1) eI) (eOp axC (eIx xT (v_ 1) eI) (eGl (v:=.int 7) ZZ.ak ⟨_,rfl⟩))) (eGl (v:=.int 127) ZZ.b0 ⟨_,rfl⟩)) sc_read_weekdays.nd)
   (ss1 (aaG (eOp ayG (abM (aC (eMk ZZ.an (ad5 ZZ) hr (aC (v_ 2) aN)) aN)) (eIx xT (v_ 1) eI)))))))),?_⟩
 refine⟨_,rfl,l,0,7,true,rfl,⟨by decide,by decide,by decide⟩,hok,fun p m qs H1 hmn s1 hp hm hq=>?_⟩
 have lq:qs.length<=20:=by
  have:=Paired.length hq
  have:=hok.most
  omega
 refine⟨_,rfl,rfl,_,rfl,ifX (fun c=>q1 c _ s1) (fun c=>?_)⟩
 have q2:=q2 c
 unfold ajU at q2
 generalize mkP true 0 7 (spl 44 l)=ms at hq q2
 generalize orM (plP 0 7 (spl 44 l))=M at hp q2
 refine⟨_,rfl,p,_,_,_,rfl,rfl,SqT.of hp,rfl,rfl,_,rfl,ifI (fun c0=>⟨_,rfl,p,_,_,_,rfl,rfl,SqT.of hp,rfl,q2 m qs _ hmn s1 hm ?_⟩) (fun c0=>?_)⟩
 ·have e:afU true M=[]:=by unfold afU;rw[if_pos c0]
  rw[e]
  exact hq
 have e:afU true M=[.wkd (wk7 M)]:=by unfold afU;rw[if_neg c0];rfl
 rw[e] at q2
 refine⟨_,rfl,p,_,_,_,rfl,rfl,SqT.of hp,rfl,_,rfl,p,_,_,_,rfl,rfl,SqT.of hp,rfl,_,_,rfl,rfl,(by show (0:Int)<=7;decide),_,_,rfl,rfl,_,_,rfl,rfl,?_⟩
 refine⟨_,rfl,fun xo dx nx ndx nex=>⟨xo,dx,_,rfl,aaA,rfl,(zL 1),fun l1 hl1=>?_⟩⟩
 have n1:Same H1 (upd (upd (upd H1 dx (.own xo)) xo (.ins aD dx [])) xo (.ins aD dx [("mask",.int (wk7 M))])):=acK nx ndx
 have n2:=n1.trans (aaB hl1 (.lst [.ref xo]))
 refine⟨_,rfl,p,_,_,_,rfl,rfl,SqT.of (n2 _ _ hp),rfl,l1,m,_,_,rfl,rfl,aaA,n2 _ _ hm,(by rw[aU,dO];show 1+_<=_;omega),fun l2 hl2=>?_⟩
 have n3:=n2.trans (aaB hl2 (.lst ([.ref xo]++qs.map V.ref)))
 exact q2 l2 (xo::qs) _ (none_of (s1.trans n2) hl2) (s1.trans n3) aaA (.cons ⟨dx,(aaB hl2 _) _ _ ((aaB hl1 _) _ _ aaA)⟩ (hq.keepM n3.keep))
theorem ad9:Df P w K mg base "month_at" 3 ["kind"] (aq6 K):=by
 refine ZZ.dx.dfs sc_month_at (fun vs H Q E h=>?_) (fun f cdv A outer s H vs Q E hr h=>?_)
 ·obtain⟨_,rfl,_⟩:=h
  rfl
 obtain⟨k,rfl,hk,q⟩:=h
 refine⟨_,(ssC (aaH 1 (eOp afY (v_ 0) eI) sc_month_at.nd)
   (ssC (aaH 2 (eOp abG (v_ 0) eI) sc_month_at.nd)
   (ssC (sIf (tCm oEq (v_ 1) (eGl (v:=.int 12) ZZ.a9 ⟨_,rfl⟩)) (ss1 (aaG (aaX (aC eI (aC (eGl (v:=.int 29) ZZ.c2 ⟨_,rfl⟩) (aC (v_ 2) aN)))))) ssN)
   (ss1 (aaG (aaX (aC (eOp aaN (v_ 1) eI) (aC (eD (acM ZZ) hr (aC (eGl (v:=.int 1) ZZ.cp ⟨_,rfl⟩) (aC (eOp aaN (v_ 1) eI) aN))) (aC (v_ 2) aN))))))))),?_⟩
 refine⟨_,rfl,_,_,rfl,rfl,⟨by decide,by decide⟩,?_⟩
 refine⟨_,rfl,_,_,rfl,rfl,(by show (0:Int)<7;decide),?_⟩
 refine⟨_,rfl,rfl,_,rfl,ifI (fun c=>?_) (fun c=>?_)⟩
 ·refine⟨_,rfl,(zL 3),fun p hp=>?_⟩
  exact q p _ (aaB hp _) (by unfold akS;rw[if_pos c];exact aaA)
 ·refine⟨_,rfl,_,_,rfl,rfl,_,rfl,_,_,rfl,rfl,_,_,rfl,⟨by omega,by omega⟩,_,rfl,(zL 3),fun p hp=>?_⟩
  exact q p _ (aaB hp _) (by unfold akS;rw[if_neg c];exact aaA)
theorem apT:Df P w K mg base "times_of" 3 ["hours","minutes"] (apX K):=by
 refine ZZ.dy.dfs sc_times_of (fun vs H Q E h=>?_) (fun f cdv A outer s H vs Q E hr h=>?_)
 ·obtain⟨_,_,rfl,_⟩:=h
  rfl
 obtain⟨h,m,rfl,hh,hm,q⟩:=h
 refine⟨_,(ssC (aaH 2 eI sc_times_of.nd)
   (ssC (afW (iL (eD (al5 ZZ) hr (aC (v_ 0) aN))) (gN 3 sc_times_of.nd) (ss1 (aaH 2 (eOp oOr (v_ 2) (eOp alJ (v_ 1) (eOp ab7 (eGl (v:=.int 60) ZZ.ae ⟨_,rfl⟩) (v_ 3)))) sc_times_of.nd)) PassesOwn.never)
   (ss1 (aaG (v_ 2))))),?_⟩
 have bh:=ajP hh.1 hh.2
 have bm:=ajP hm.1 hm.2
 refine⟨_,rfl,h,rfl,⟨hh.1,by omega⟩,fun p H1 s1 h1=>⟨p,rfl,⟨_,SqL.of h1⟩,ag0 (K:=K) (a:=p) (xs:=(ap9 h).map V.int) (fun i σ H2=>∃(v3:Option V),σ=[some (.int h),some (.int m),some (.int (orM (((ap9 h).take i).map fun z=>m*2^(60*z).toNat))),v3]/\Same H1 H2) ⟨_,rfl,Same.refl _⟩ (fun i σ H2 _ ⟨_,_,s2⟩=>SqL.of (s2 _ _ h1)) ?turn ?done⟩⟩
 case done=>
  rintro σ H2 ⟨v3,rfl,s2⟩
  rw[aU,cM]
  exact⟨_,rfl,q _ H2 rfl (s1.trans s2)⟩
 case turn=>
  rintro i x σ H2 hx ⟨v3,rfl,s2⟩
  rw[bE] at hx
  cases ez:(ap9 h)[i]? with
  |none=>rw[ez] at hx;cases hx
  |some z=>
   rw[ez] at hx
   obtain rfl:V.int z=x:=bA hx
   have et:orM (((ap9 h).take (i+1)).map fun z=>m*2^(60*z).toNat)=Builtin.bitOr (orM (((ap9 h).take i).map fun z=>m*2^(60*z).toNat)) (m*2^(60*z).toNat):=by rw[cF,ez,bC];exact aeS _ _
   rw[et]
   have hz:=bP ez
   rw[ajK hh.1 hh.2] at hz
   obtain⟨n,hn,_,rfl⟩:=flt_mem.mp hz
   refine⟨_,rfl,_,rfl,_,rfl,_,_,rfl,rfl,.inl ⟨by decide,by decide⟩,_,_,rfl,rfl,⟨?_,?_,?_⟩,_,_,rfl,rfl,?_⟩
   ·omega
   ·omega
   ·omega
   ·exact⟨_,rfl,s2⟩
theorem asA:Df P w K mg base "days_by" 5 ["days","weekdays","last","first"] (asN K aB aE aF aH aD aA aG aI):=by
 refine ZZ.ee.dfs sc_days_by (fun vs H Q E h=>?_) (fun f cdv A outer s H vs Q E hr h=>?_)
 ·obtain⟨_,_,_,_,_,_,rfl,_⟩:=h
  rfl
 obtain⟨dv,wv,kd,kw,l,fi,rfl,hd,hw,hlf,q⟩:=h
 refine⟨_,(ssC (sIf (tW (aqR (tCm adF (v_ 0) eN) (ajW (tCm adF (v_ 1) eN)))) (ss1 (aaG (eD (aeH ZZ) hr (aC (v_ 2) aN)))) ssN)
   (ssC (aaH 4 eI sc_days_by.nd)
   (ssC (afW (iT (aaX (aC (v_ 0) (aC (v_ 1) aN)))) (gN 5 sc_days_by.nd) (ss1 (sIf (tCm awI (v_ 5) eN) (ss1 (aaH 4 (eOp oOr (v_ 4) (eD (apO ZZ) hr (aC (v_ 5) (aC (v_ 2) (aC (v_ 3) aN))))) sc_days_by.nd)) ssN)) PassesOwn.never)
   (ss1 (aaG (v_ 4)))))),?_⟩
 have loop:kd.isNone=false∨kw.isNone=false->abK kd kw l fi=orO kw (orO kd 0 l fi) l fi:=fun h=>by
  unfold abK
  rw[if_neg]
  rintro⟨h1,h2⟩
  rcases h with h | h
  ·rw[h] at h1;cases h1
  ·rw[h] at h2;cases h2
 cases kd with
 |none=>
  have ed:dv=.non:=hd
  subst ed
  cases kw with
  |none=>
   have ew:wv=.non:=hw
   subst ew
   refine⟨_,rfl,rfl,_,rfl,?_⟩
   show if decide (V.non=V.non)=true then _ else _
   rw[dR rfl]
   refine abB ⟨_,rfl,rfl,_,rfl,?_⟩
   show if decide (V.non=V.non)=true then _ else _
   rw[dR rfl]
   exact abB ⟨_,rfl,l,rfl,hlf.1,q H (Same.refl _)⟩
  |some kw=>
   rw[loop (.inr rfl)] at q
   refine⟨_,rfl,rfl,_,rfl,?_⟩
   show if decide (V.non=V.non)=true then _ else _
   rw[dR rfl]
   obtain⟨pw,qw,rfl,lw,fw,ow⟩:=hw
   refine abB ⟨_,rfl,rfl,_,rfl,aa5 ?_⟩
   refine⟨_,rfl,_,rfl,(zL 2),fun tt ht=>⟨tt,rfl,⟨_,SqT.of aaA⟩,anD (K:=K) (a:=tt) (xs:=[V.non,(V.ref pw)]) (fun i σ H2=>∃v5:Option V,σ=[some V.non,some (V.ref pw),some (.int l),some (.int fi),some (.int (match i with | 0=>0 | 1=>orO none 0 l fi | _=>orO (some kw) (orO none 0 l fi) l fi)),v5]/\Same (upd H tt (.tup [V.non,(V.ref pw)])) H2) ⟨_,rfl,Same.refl _⟩ (fun i σ H2 _ ⟨_,_,s2⟩=>SqT.of (s2 _ _ aaA)) ?turn ?done⟩⟩
   case done=>
    rintro σ H2 ⟨v5,rfl,s2⟩
    exact⟨_,rfl,q H2 ((aaB ht _).trans s2)⟩
   case turn=>
    rintro i x σ H2 hx ⟨v5,rfl,s2⟩
    have sA:=(aaB ht (.tup [V.non,(V.ref pw)])).trans s2
    match i,hx with
    |0,hx=>
     cases hx
     refine⟨_,rfl,rfl,_,rfl,?_⟩
     show if (!decide (V.non=V.non))=true then _ else _
     rw[dR rfl]
     exact aa5 ⟨_,rfl,s2⟩
    |1,hx=>
     cases hx
     exact⟨_,rfl,rfl,_,rfl,abB ⟨_,rfl,_,rfl,_,rfl,_,rfl,pw,qw,kw,l,fi,rfl,SqL.of (sA _ _ lw),fw.keepM sA.keep,ow,hlf,_,_,rfl,rfl,⟨_,rfl,s2⟩⟩⟩
    |i+2,hx=>cases hx
 |some kd=>
  rw[loop (.inl rfl)] at q
  obtain⟨pd,qd,rfl,ld,fd,od⟩:=hd
  refine⟨_,rfl,rfl,_,rfl,aa5 ?_⟩
  cases kw with
  |none=>
   have ew:wv=.non:=hw
   subst ew
   refine⟨_,rfl,_,rfl,(zL 2),fun tt ht=>⟨tt,rfl,⟨_,SqT.of aaA⟩,anD (K:=K) (a:=tt) (xs:=[(V.ref pd),V.non]) (fun i σ H2=>∃v5:Option V,σ=[some (V.ref pd),some V.non,some (.int l),some (.int fi),some (.int (match i with | 0=>0 | 1=>orO (some kd) 0 l fi | _=>orO none (orO (some kd) 0 l fi) l fi)),v5]/\Same (upd H tt (.tup [(V.ref pd),V.non])) H2) ⟨_,rfl,Same.refl _⟩ (fun i σ H2 _ ⟨_,_,s2⟩=>SqT.of (s2 _ _ aaA)) ?turn ?done⟩⟩
   case done=>
    rintro σ H2 ⟨v5,rfl,s2⟩
    exact⟨_,rfl,q H2 ((aaB ht _).trans s2)⟩
   case turn=>
    rintro i x σ H2 hx ⟨v5,rfl,s2⟩
    have sA:=(aaB ht (.tup [(V.ref pd),V.non])).trans s2
    match i,hx with
    |0,hx=>
     cases hx
     exact⟨_,rfl,rfl,_,rfl,abB ⟨_,rfl,_,rfl,_,rfl,_,rfl,pd,qd,kd,l,fi,rfl,SqL.of (sA _ _ ld),fd.keepM sA.keep,od,hlf,_,_,rfl,rfl,⟨_,rfl,s2⟩⟩⟩
    |1,hx=>
     cases hx
     refine⟨_,rfl,rfl,_,rfl,?_⟩
     show if (!decide (V.non=V.non))=true then _ else _
     rw[dR rfl]
     exact aa5 ⟨_,rfl,s2⟩
    |i+2,hx=>cases hx
  |some kw=>
   obtain⟨pw,qw,rfl,lw,fw,ow⟩:=hw
   refine⟨_,rfl,_,rfl,(zL 2),fun tt ht=>⟨tt,rfl,⟨_,SqT.of aaA⟩,anD (K:=K) (a:=tt) (xs:=[(V.ref pd),(V.ref pw)]) (fun i σ H2=>∃v5:Option V,σ=[some (V.ref pd),some (V.ref pw),some (.int l),some (.int fi),some (.int (match i with | 0=>0 | 1=>orO (some kd) 0 l fi | _=>orO (some kw) (orO (some kd) 0 l fi) l fi)),v5]/\Same (upd H tt (.tup [(V.ref pd),(V.ref pw)])) H2) ⟨_,rfl,Same.refl _⟩ (fun i σ H2 _ ⟨_,_,s2⟩=>SqT.of (s2 _ _ aaA)) ?turn ?done⟩⟩
   case done=>
    rintro σ H2 ⟨v5,rfl,s2⟩
    exact⟨_,rfl,q H2 ((aaB ht _).trans s2)⟩
   case turn=>
    rintro i x σ H2 hx ⟨v5,rfl,s2⟩
    have sA:=(aaB ht (.tup [(V.ref pd),(V.ref pw)])).trans s2
    match i,hx with
    |0,hx=>
     cases hx
     exact⟨_,rfl,rfl,_,rfl,abB ⟨_,rfl,_,rfl,_,rfl,_,rfl,pd,qd,kd,l,fi,rfl,SqL.of (sA _ _ ld),fd.keepM sA.keep,od,hlf,_,_,rfl,rfl,⟨_,rfl,s2⟩⟩⟩
    |1,hx=>
     cases hx
     exact⟨_,rfl,rfl,_,rfl,abB ⟨_,rfl,_,rfl,_,rfl,_,rfl,pw,qw,kw,l,fi,rfl,SqL.of (sA _ _ lw),fw.keepM sA.keep,ow,hlf,_,_,rfl,rfl,⟨_,rfl,s2⟩⟩⟩
    |i+2,hx=>cases hx
theorem ai6:DfM P w K mg base aJ "__init__" 4 ["self","fields"] (aiW K aJ):=by
 refine ZZ.b7.dfs ajA (fun vs H Q E h=>?_) (fun f cdv A outer s H vs Q E hr h=>?_)
 ·obtain⟨_,_,_,_,_,_,_,_,rfl,_⟩:=h
  rfl
 obtain⟨p,dx,fa,m0,m1,m3,dv,wv,rfl,hp,hf,h0,h1,q⟩:=h
 refine⟨_,(ssC (sFl (v_ 0) (eIx xL (v_ 1) (eGl (v:=.int 0) ZZ.eh ⟨_,rfl⟩)))
   (ssC (sFl (v_ 0) (eIx xL (v_ 1) (eGl (v:=.int 1) ZZ.eo ⟨_,rfl⟩)))
   (ssC (sFl (v_ 0) (eIx xL (v_ 1) (eGl (v:=.int 2) ZZ.dk ⟨_,rfl⟩)))
   (ssC (sFl (v_ 0) (eIx xL (v_ 1) (eGl (v:=.int 3) ZZ.em ⟨_,rfl⟩)))
   (ssC (sFl (v_ 0) (eIx xL (v_ 1) (eGl (v:=.int 4) ZZ.bl ⟨_,rfl⟩)))
   (ss1 (sFl (v_ 0) (eD (apT ZZ) hr (aC (eFl (v_ 0)) (aC (eFl (v_ 0)) aN)))))))))),?_⟩
 have hfp:fa≠p:=fun e=>by rw[e,hp] at hf;cases hf
 have g0:H fa=some (.lst [.int m0,.int m1,dv,.int m3,wv]):=hf
 have g1:(upd H p (.ins aJ dx (aaR "minute_mask" (.int m0) []))) fa=some (.lst [.int m0,.int m1,dv,.int m3,wv]):=by rw[aaF hfp];exact g0
 have g2:(upd (upd H p (.ins aJ dx (aaR "minute_mask" (.int m0) []))) p (.ins aJ dx (aaR "hour_mask" (.int m1) (aaR "minute_mask" (.int m0) [])))) fa=some (.lst [.int m0,.int m1,dv,.int m3,wv]):=by rw[aaF hfp];exact g1
 have g3:(upd (upd (upd H p (.ins aJ dx (aaR "minute_mask" (.int m0) []))) p (.ins aJ dx (aaR "hour_mask" (.int m1) (aaR "minute_mask" (.int m0) [])))) p (.ins aJ dx (aaR "day_marks" dv (aaR "hour_mask" (.int m1) (aaR "minute_mask" (.int m0) []))))) fa=some (.lst [.int m0,.int m1,dv,.int m3,wv]):=by rw[aaF hfp];exact g2
 have g4:(upd (upd (upd (upd H p (.ins aJ dx (aaR "minute_mask" (.int m0) []))) p (.ins aJ dx (aaR "hour_mask" (.int m1) (aaR "minute_mask" (.int m0) [])))) p (.ins aJ dx (aaR "day_marks" dv (aaR "hour_mask" (.int m1) (aaR "minute_mask" (.int m0) []))))) p (.ins aJ dx (aaR "month_mask" (.int m3) (aaR "day_marks" dv (aaR "hour_mask" (.int m1) (aaR "minute_mask" (.int m0) [])))))) fa=some (.lst [.int m0,.int m1,dv,.int m3,wv]):=by rw[aaF hfp];exact g3
 have g5:(upd (upd (upd (upd (upd H p (.ins aJ dx (aaR "minute_mask" (.int m0) []))) p (.ins aJ dx (aaR "hour_mask" (.int m1) (aaR "minute_mask" (.int m0) [])))) p (.ins aJ dx (aaR "day_marks" dv (aaR "hour_mask" (.int m1) (aaR "minute_mask" (.int m0) []))))) p (.ins aJ dx (aaR "month_mask" (.int m3) (aaR "day_marks" dv (aaR "hour_mask" (.int m1) (aaR "minute_mask" (.int m0) [])))))) p (.ins aJ dx (aaR "weekday_marks" wv (aaR "month_mask" (.int m3) (aaR "day_marks" dv (aaR "hour_mask" (.int m1) (aaR "minute_mask" (.int m0) []))))))) fa=some (.lst [.int m0,.int m1,dv,.int m3,wv]):=by rw[aaF hfp];exact g4
 have l5:∀(f:Str) (v:V),(abQ m0 m1 dv m3 wv 0).lookup f=some v->f≠"time_mask"->(aaR "weekday_marks" wv (aaR "month_mask" (.int m3) (aaR "day_marks" dv (aaR "hour_mask" (.int m1) (aaR "minute_mask" (.int m0) []))))).lookup f=some v:=fun f v h hne=>by
  unfold abQ at h
  rw[aaE,if_neg hne] at h
  exact h
 refine⟨_,rfl,fa,_,_,_,rfl,rfl,SqL.of g0,rfl,_,rfl,p,aJ,dx,_,rfl,hp,ZZ.aa.cl,ZZ.ah,(by show 0<1000;decide),_,rfl,fa,_,_,_,rfl,rfl,SqL.of g1,rfl,_,rfl,p,aJ,dx,_,rfl,aaA,ZZ.aa.cl,ZZ.al,(by show 1<1000;decide),_,rfl,fa,_,_,_,rfl,rfl,SqL.of g2,rfl,_,rfl,p,aJ,dx,_,rfl,aaA,ZZ.aa.cl,ZZ.a1,(by show 2<1000;decide),_,rfl,fa,_,_,_,rfl,rfl,SqL.of g3,rfl,_,rfl,p,aJ,dx,_,rfl,aaA,ZZ.aa.cl,ZZ.ai,(by show 3<1000;decide),_,rfl,fa,_,_,_,rfl,rfl,SqL.of g4,rfl,_,rfl,p,aJ,dx,_,rfl,aaA,ZZ.aa.cl,ZZ.ao,(by show 4<1000;decide),_,rfl,p,aJ,dx,_,_,rfl,aaA,ZZ.aa.cl,ZZ.al,l5 _ _ (aeW ..) (by decide +kernel),_,rfl,p,aJ,dx,_,_,rfl,aaA,ZZ.aa.cl,ZZ.ah,l5 _ _ (acV ..) (by decide +kernel),m1,m0,rfl,h1,h0,fun t HT ht sT=>?_⟩
 refine⟨_,rfl,p,aJ,dx,_,rfl,sT _ _ aaA,ZZ.aa.cl,ZZ.a2,(by show 5<1000;decide),q t _ ht aaA fun b o hb hne=>?_⟩
 rw[aaF hne]
 refine sT _ _ ?_
 rw[aaF hne,aaF hne,aaF hne,aaF hne,aaF hne]
 exact hb
theorem acJ:DfM P w K mg base aJ "days_in" 6 ["self","kind"] (ak8 K aJ aB aE aF aH aD aA aG aI):=by
 refine ZZ.ci.dfs sc_Row_days_in (fun vs H Q E h=>?_) (fun f cdv A outer s H vs Q E hr h=>?_)
 ·obtain⟨_,_,_,_,_,_,_,_,_,_,_,rfl,_⟩:=h
  rfl
 obtain⟨p,dx,m0,m1,m3,tm,k,dv,wv,kd,kw,rfl,hp,hk,hm,hd,hw,q⟩:=h
 refine⟨_,(ssC (aaH 2 (eD (ad9 ZZ) hr (aC (v_ 1) aN)) sc_Row_days_in.nd)
   (ssC (sIf (tNo (tVa (eD (af5 ZZ) hr (aC (eFl (v_ 0)) (aC (eIx xT (v_ 2) eI) aN))))) (ss1 (aaG eI)) ssN)
   (ss1 (aaG (eD (asA ZZ) hr (aC (eFl (v_ 0)) (aC (eFl (v_ 0)) (aC (eIx xT (v_ 2) eI) (aC (eIx xT (v_ 2) eI) aN))))))))),?_⟩
 have ml:=agV hk.1 hk.2
 refine⟨_,rfl,k,rfl,hk,fun t H1 s1 h1=>?_⟩
 rw[agT] at h1
 have hp1:=s1 _ _ hp
 refine⟨_,rfl,p,aJ,dx,_,_,rfl,hp1,ZZ.aa.cl,ZZ.ai,adZ ..,_,rfl,t,_,_,_,rfl,rfl,SqT.of h1,rfl,m3,mnA k,rfl,⟨hm,by omega⟩,_,rfl,?_⟩
 by_cases c:tb m3 (mnA k).toNat=true
 ·rw[if_pos c] at q
  rw[c]
  refine aa5 ⟨_,rfl,p,aJ,dx,_,_,rfl,hp1,ZZ.aa.cl,ZZ.a1,ajZ ..,_,rfl,p,aJ,dx,_,_,rfl,hp1,ZZ.aa.cl,ZZ.ao,af1 ..,_,rfl,t,_,_,_,rfl,rfl,SqT.of h1,rfl,_,rfl,t,_,_,_,rfl,rfl,SqT.of h1,rfl,dv,wv,kd,kw,lnA k,k%7,rfl,hd.keep s1,hw.keep s1,ml.2,fun H' s'=>q H' (s1.trans s')⟩
 ·have c':tb m3 (mnA k).toNat=false:=by simpa using c
  rw[if_neg c] at q
  rw[c']
  exact abB (q H1 s1)
theorem anO:Df P w K mg base "read_word" 9 ["word","place"] (an4 K aB aE aF aH aD aA aG aI):=by
 refine ZZ.da.dfs sc_read_word (fun vs H Q E h=>?_) (fun f cdv A outer s H vs Q E hr h=>?_)
 ·obtain⟨_,_,rfl,_⟩:=h
  rfl
 obtain⟨t,pl,rfl,h⟩:=h
 refine⟨_,(ssC (sIf (tCm oEq (v_ 1) (eGl (v:=.int 2) ZZ.dk ⟨_,rfl⟩)) (ss1 (aaG (eD (aoE ZZ) hr (aC (v_ 0) aN)))) ssN)
   (ssC (sIf (tCm oEq (v_ 1) (eGl (v:=.int 4) ZZ.bl ⟨_,rfl⟩)) (ss1 (aaG (eD (ahK ZZ) hr (aC (v_ 0) aN)))) ssN)
   (ssC (aaH 2 (eDgK (eGl (v:=.ref a_BOUNDS) ZZ.ei rfl) (v_ 1)) sc_read_word.nd)
   (ss1 (aaG (eD (alK ZZ) hr (aC (v_ 0) (aC (eIx xT (v_ 2) eI) (aC (eIx xT (v_ 2) eI) aN))))))))),?_⟩
 rcases h with ⟨rfl,ko,hT,q⟩ | ⟨rfl,ko,hT,q⟩ | ⟨lo,hi,m,hp,hT,q⟩
 ·cases ko with
  |none=>
   have et:t=[42]:=hT.2.2
   exact⟨_,rfl,rfl,_,rfl,ifI (fun _=>⟨_,rfl,t,rfl,hT.2.1,(fun _ H' s'=>q _ H' s' rfl (fun p e=>nomatch e)),(fun c=>absurd et c)⟩) (fun c=>absurd rfl c)⟩
  |some ks=>
   exact⟨_,rfl,rfl,_,rfl,ifI (fun _=>⟨_,rfl,t,rfl,hT.2.1,(fun e=>absurd e hT.2.2.1),(fun _ m qs H' hm s' hl hF=>q _ H' s' ⟨m,qs,rfl,hl,by rw[←hT.2.2.2.2];exact hF,fun k hk=>(aqY hT.2.2.2.1 k hk).2.2⟩ (fun p e=>by cases e;exact hm))⟩) (fun c=>absurd rfl c)⟩
 ·cases ko with
  |none=>
   have et:t=[42]:=hT.2.2
   exact⟨_,rfl,rfl,_,rfl,ifI (fun c=>absurd c (by decide)) (fun _=>⟨_,rfl,rfl,_,rfl,ifI (fun _=>⟨_,rfl,t,rfl,hT.2.1,(fun _ H' s'=>q _ H' s' rfl (fun p e=>nomatch e)),(fun c=>absurd et c)⟩) (fun c=>absurd rfl c)⟩)⟩
  |some ks=>
   exact⟨_,rfl,rfl,_,rfl,ifI (fun c=>absurd c (by decide)) (fun _=>⟨_,rfl,rfl,_,rfl,ifI (fun _=>⟨_,rfl,t,rfl,hT.2.1,(fun e=>absurd e hT.2.2.1),(fun _ m qs H' hm s' hl hF=>q _ H' s' ⟨m,qs,rfl,hl,by rw[←hT.2.2.2.2];exact hF,fun k hk=>(aqY hT.2.2.2.1 k hk).2.2⟩ (fun p e=>by cases e;exact hm))⟩) (fun c=>absurd rfl c)⟩)⟩
 ·have hl:=hT.len
  have hne:pl≠2/\pl≠4:=by omega
  rcases hp with ⟨rfl,rfl,rfl⟩ | ⟨rfl,rfl,rfl⟩ | ⟨rfl,rfl,rfl⟩
  ·exact⟨_,rfl,rfl,_,rfl,ifI (fun c=>absurd c (by decide)) (fun _=>⟨_,rfl,rfl,_,rfl,ifI (fun c=>absurd c (by decide)) (fun _=>⟨_,rfl,a_BOUNDS,_,_,_,rfl,ZZ.bb,rfl,rfl,_,rfl,_,rfl,a_BOUNDS_0,_,_,_,rfl,rfl,ZZ.bf _,rfl,_,rfl,a_BOUNDS_0,_,_,_,rfl,rfl,ZZ.bf _,rfl,t,_,_,rfl,hl,⟨by decide,by decide,by decide⟩,hT.ok,fun H' s'=>by rw[hT.is];exact q H' s'⟩)⟩)⟩
  ·exact⟨_,rfl,rfl,_,rfl,ifI (fun c=>absurd c (by decide)) (fun _=>⟨_,rfl,rfl,_,rfl,ifI (fun c=>absurd c (by decide)) (fun _=>⟨_,rfl,a_BOUNDS,_,_,_,rfl,ZZ.bb,rfl,rfl,_,rfl,_,rfl,a_BOUNDS_1,_,_,_,rfl,rfl,ZZ.bg _,rfl,_,rfl,a_BOUNDS_1,_,_,_,rfl,rfl,ZZ.bg _,rfl,t,_,_,rfl,hl,⟨by decide,by decide,by decide⟩,hT.ok,fun H' s'=>by rw[hT.is];exact q H' s'⟩)⟩)⟩
  ·exact⟨_,rfl,rfl,_,rfl,ifI (fun c=>absurd c (by decide)) (fun _=>⟨_,rfl,rfl,_,rfl,ifI (fun c=>absurd c (by decide)) (fun _=>⟨_,rfl,a_BOUNDS,_,_,_,rfl,ZZ.bb,rfl,rfl,_,rfl,_,rfl,a_BOUNDS_3,_,_,_,rfl,rfl,ZZ.bh _,rfl,_,rfl,a_BOUNDS_3,_,_,_,rfl,rfl,ZZ.bh _,rfl,t,_,_,rfl,hl,⟨by decide,by decide,by decide⟩,hT.ok,fun H' s'=>by rw[hT.is];exact q H' s'⟩)⟩)⟩
theorem arX:Df P w K mg base "read_at" 10 ["word","place"] (arW K aB aE aF aH aD aA aG aI):=by
 refine ZZ.ef.dfs arK (fun vs H Q E h=>?_) (fun f cdv A outer s H vs Q E hr h=>?_)
 ·obtain⟨_,_,rfl,_⟩:=h
  rfl
 obtain⟨t,pl,rfl,h⟩:=h
 refine⟨_,(ss1 (aGW (ss1 (aaG (eD (anO ZZ) hr (aC (v_ 0) (aC (v_ 1) aN))))))),?_⟩
 exact⟨_,rfl,_,rfl,t,pl,rfl,h⟩
theorem aqK:Df P w K mg base "read_row" 11 ["text"] (aqE K aB aE aF aH aD aA aG aI aJ):=by
 refine ZZ.dz.dfs sc_read_row (fun vs H Q E h=>?_) (fun f cdv A outer s H vs Q E hr h=>?_)
 ·obtain⟨_,_,_,_,_,_,_,_,_,_,rfl,_⟩:=h
  rfl
 obtain⟨w0,w1,w2,w3,w4,m0,m1,m3,kd,kw,rfl,f0,f1,f3,d2,d4,hb,q⟩:=h
 refine⟨_,(ssC (sIf (tW (wOr (tNo (tVa (eCB cIs ZZ.af PyProof.Rows.boot_isinstance (aC (v_ 0) (aC (eTy ZZ.ad PyProof.Rows.boot_str) aN))))) (af4 (tCm oGt (eCB aw7 ZZ.ag PySem.boot_len (aC (v_ 0) aN)) (eGl (v:=.int 1600) ZZ.bq ⟨_,rfl⟩))))) (ss1 an2) ssN)
   (ssC (aaH 1 (au6 (v_ 0) (eSx [32])) sc_read_row.nd)
   (ssC (sIf (tW (wOr (tCm oNe (eCB ao0 ZZ.ag PySem.boot_len (aC (v_ 1) aN)) (eGl (v:=.int 5) ZZ.dl ⟨_,rfl⟩)) (af4 (tCm oIn (eSx []) (v_ 1))))) (ss1 an2) ssN)
   (ss1 (aaG (eMk ZZ.aa (ai6 ZZ) hr (aC (aCL ["place","word"] [] [] (iE ZZ.am (v_ 1)) (fun _ _ _ _ _ _=>gTuc (K:=K) (n:=2) (gsC (gN 0 (show ((["place","word"]:List Str)++([]:List Str)).Nodup by decide +kernel)) (gsC (gN 1 (show ((["place","word"]:List Str)++([]:List Str)).Nodup by decide +kernel)) gsN))) (fun _ _ _ _ _ _=>fsN) (fun _ _ _ _ _ _=>(eD (arX ZZ) hr (aC (v_ 1) (aC (v_ 0) aN))))) aN))))))),?_⟩
 have n32:∀w∈[w0,w1,w2,w3,w4],32∉w:=fun w hw=>by
  simp only[bB,List.not_mem_nil,or_false] at hw
  rcases hw with rfl | rfl | rfl | rfl | rfl
  ·exact f0.sp
  ·exact f1.sp
  ·exact d2.1.1
  ·exact f3.sp
  ·exact d4.1.1
 have nn:∀w∈[w0,w1,w2,w3,w4],w≠[]:=fun w hw=>by
  simp only[bB,List.not_mem_nil,or_false] at hw
  rcases hw with rfl | rfl | rfl | rfl | rfl
  ·exact f0.ne
  ·exact f1.ne
  ·exact d2.1.2
  ·exact f3.ne
  ·exact d4.1.2
 have hs:=aeB 32 [w0,w1,w2,w3,w4] (c9 _ _) n32
 obtain⟨L,eL⟩:∃L,L=aa1 32 [w0,w1,w2,w3,w4]:=⟨_,rfl⟩
 have hl:L.length<=1600:=by
  have:=f0.len
  have:=f1.len
  have:=f3.len
  have:=d2.2.1.len
  have:=d4.2.1.len
  rw[eL]
  show (w0++32::(w1++32::(w2++32::(w3++32::w4)))).length<=1600
  simp only[aW,bU]
  omega
 rw[←eL] at hs ⊢
 refine⟨_,rfl,_,.str,.str,rfl,(by decide),rfl,_,rfl,ifF rfl ⟨_,rfl,L,rfl,(by rw[dO];omega),_,_,rfl,rfl,_,rfl,?_⟩⟩
 rw[dW (show ¬(1600:Int)<((L.length:Nat):Int) by omega)]
 refine aa5 ⟨_,rfl,rfl,L,32,rfl,rfl,(by rw[dO];omega),fun ps hps=>?_⟩
 rw[hs]
 have s0:=aaB hps (.lst ([w0,w1,w2,w3,w4].map fun q=>V.str (Tx q)))
 refine⟨_,rfl,ps,_,rfl,.inl (SqL.of aaA),rfl,_,rfl,ifNe rfl ⟨_,rfl,ps,_,rfl,.inl (SqL.of aaA),rfl,rfl,_,rfl,?_⟩⟩
 show if inV (.str (Tx [])) ([w0,w1,w2,w3,w4].map fun q=>V.str (Tx q))=true then _ else _
 rw[aAD nn]
 refine aa5 ⟨_,rfl,ps,rfl,⟨_,SqL.of aaA⟩,asO (xs:=[w0,w1,w2,w3,w4].map fun q=>V.str (Tx q)) (fun D i l H=>i=0/\l=[]∨(∃l',H D=some (.lst l'))/\RR (⟨aB,aE,aF,aH,aD,aA,aG,aI⟩:Cs) m0 m1 m3 (gO false kd) (gO true kw) D i l H) ?u1 ?u2 (zL 5) (fun D _=>.inl ⟨rfl,rfl⟩) (SqL.of aaA) ?st ?dn⟩
 case u1=>
  rintro D i l HX l' (h | ⟨hl,h⟩)
  ·exact .inl h
  ·exact .inr ⟨⟨_,aaA⟩,h.upd hl⟩
 case u2=>
  rintro D i l HX HY s (h | ⟨⟨l',hl⟩,h⟩)
  ·exact .inl h
  ·exact .inr ⟨⟨l',s _ _ hl⟩,h.keep s⟩
 case st=>
  intro i x l D H2 E' F' hx hR hD s2 hz hE hF
  have hR':RR (⟨aB,aE,aF,aH,aD,aA,aG,aI⟩:Cs) m0 m1 m3 (gO false kd) (gO true kw) D i l H2:=by
   rcases hR with ⟨rfl,rfl⟩ | h
   ·rfl
   ·exact h.2
  have up:∀{H5:Hp},Same H2 H5->∃l',H5 D=some (.lst l'):=fun s=>⟨_,s _ _ hz⟩
  have fr:∀{p:Addr},H2 p=none->p≠D:=fun h e=>by rw[e,hz] at h;cases h
  match i,hx,hR' with
  |0,hx,e=>cases hx;exact⟨_,rfl,_,rfl,w0,0,rfl,.inr (.inr ⟨0,59,m0,.inl ⟨rfl,rfl,rfl⟩,f0,fun H' s'=>hE _ _ s' (.inr ⟨up s',by rw[e];rfl⟩)⟩)⟩
  |1,hx,e=>cases hx;exact⟨_,rfl,_,rfl,w1,1,rfl,.inr (.inr ⟨0,23,m1,.inr (.inl ⟨rfl,rfl,rfl⟩),f1,fun H' s'=>hE _ _ s' (.inr ⟨up s',by rw[e];rfl⟩)⟩)⟩
  |2,hx,e=>cases hx;exact⟨_,rfl,_,rfl,w2,2,rfl,.inl ⟨rfl,kd,d2,fun v H' s' hv hn=>hE _ _ s' (.inr ⟨up s',v,by rw[e];rfl,hv,fun p ep=>fr (hn p ep)⟩)⟩⟩
  |3,hx,⟨dv,e,hd⟩=>cases hx;exact⟨_,rfl,_,rfl,w3,3,rfl,.inr (.inr ⟨1,12,m3,.inr (.inr ⟨rfl,rfl,rfl⟩),f3,fun H' s'=>hE _ _ s' (.inr ⟨up s',dv,by rw[e];rfl,hd.keep s'⟩)⟩)⟩
  |4,hx,⟨dv,e,hd⟩=>cases hx;exact⟨_,rfl,_,rfl,w4,4,rfl,.inr (.inl ⟨rfl,kw,d4,fun v H' s' hv hn=>hE _ _ s' (.inr ⟨up s',dv,v,by rw[e];rfl,hd.keep s',hv,fun p ep=>fr (hn p ep)⟩)⟩)⟩
  |i+5,hx,_=>cases hx
 case dn=>
  intro D H2 l hR hD s2 hz
  rcases hR with ⟨e,_⟩ | ⟨_,hR⟩
  ·cases e
  obtain⟨dv,wv,rfl,hd,hw⟩:=hR
  intro x dx nx ndx nex
  have n1:=akQ (a:=.own x) (b:=.ins aJ dx []) nx ndx
  refine⟨x,dx,D,m0,m1,m3,dv,wv,rfl,aaA,n1 _ _ hz,⟨f0.nn,hb.1⟩,⟨f1.nn,hb.2⟩,fun tm H' htm hx' hs'=>⟨rfl,?_⟩⟩
  have sX:Same H2 H':=fun b o hb'=>hs' b o (n1 _ _ hb') (fun e=>by rw[e,nx] at hb';cases hb')
  exact q x dx dv wv tm H' htm (s0.trans (s2.trans sX)) hx' (hd.1.keep sX) (hw.1.keep sX)
theorem abS:DfM P w K mg base aJ "shut_by" 7 ["self","moment"] (akJ K aJ aB aE aF aH aD aA aG aI):=by
 refine ZZ.cj.dfs sc_Row_shut_by (fun vs H Q E h=>?_) (fun f cdv A outer s H vs Q E hr h=>?_)
 ·obtain⟨_,_,_,_,_,_,_,_,_,_,_,rfl,_⟩:=h
  rfl
 obtain⟨p,dx,m0,m1,m3,tm,mo,dv,wv,kd,kw,rfl,hp,hn,hd,hw,q⟩:=h
 refine⟨_,(ssC (aaH 2 (eD (awA ZZ) hr (aC (v_ 1) aN)) sc_Row_shut_by.nd)
   (ssC (aaH 3 (eD (af8 ZZ) hr (aC (eIx xT (v_ 2) eI) aN)) sc_Row_shut_by.nd)
   (ssC (sIf (tNo (tVa (eD (af5 ZZ) hr (aC (eFl (v_ 0)) (aC (eIx xT (v_ 3) eI) aN))))) (ss1 (aaG (eSx [109,111,110,116,104]))) ssN)
   (ssC (sIf (tNo (tVa (eD (af5 ZZ) hr (aC (eMe ZZ.aa.cl (acJ ZZ) hr (v_ 0) (aC (eD (adM ZZ) hr (aC (eIx xT (v_ 3) eI) (aC (eIx xT (v_ 3) eI) aN))) aN)) (aC (eIx xT (v_ 3) eI) aN))))) (ss1 (aaG (eSx [100,97,121]))) ssN)
   (ssC (sIf (tNo (tVa (eD (af5 ZZ) hr (aC (eFl (v_ 0)) (aC (eIx xT (v_ 2) eI) aN))))) (ss1 (aaG (eSx [104,111,117,114]))) ssN)
   (ssC (sIf (tNo (tVa (eD (af5 ZZ) hr (aC (eFl (v_ 0)) (aC (eIx xT (v_ 2) eI) aN))))) (ss1 (aaG (eSx [109,105,110,117,116,101]))) ssN)
   (ss1 (aaG eN)))))))),?_⟩
 refine⟨_,rfl,mo,rfl,fun t H1 s1 h1=>⟨_,rfl,t,_,_,_,rfl,rfl,SqT.of (h1),rfl,_,rfl,fun y m k t2 H2 ok e s2 h2=>?_⟩⟩
 have s12:=s1.trans s2
 have hp2:=s12 _ _ hp
 have q':=q y m k
 refine⟨_,rfl,p,aJ,dx,_,_,rfl,hp2,ZZ.aa.cl,ZZ.ai,adZ ..,_,rfl,t2,_,_,_,rfl,rfl,SqT.of (h2),rfl,m3,m,rfl,⟨hn.2.2,by have:=ok.1;omega⟩,_,rfl,?_⟩
 cases c1:tb m3 m.toNat with
 |false=>
  have z:=q' H2 ok e s12
  rw[sh1 c1] at z
  exact abB z
 |true=>
  have mk:=ab9 (y:=y) ok.1.1 ok.1.2
  have kl:=ajS (y:=y) ok.1.1 ok.1.2
  refine aa5 ⟨_,rfl,p,dx,_,rfl,hp2,ab0 ..,_,rfl,t2,_,_,_,rfl,rfl,SqT.of (h2),rfl,_,rfl,t2,_,_,_,rfl,rfl,SqT.of (h2),rfl,y,m,rfl,ok.1,fun H3 s3=>?_⟩
  refine⟨p,dx,m0,m1,m3,tm,kindOf y m,dv,wv,kd,kw,rfl,s3 _ _ hp2,kl,hn.2.2,hd.keep (s12.trans s3),hw.keep (s12.trans s3),fun H4 s4=>?_⟩
  rw[mk.1,mk.2,if_pos c1,ajO ok e]
  have s24:=s3.trans s4
  have sA:=s12.trans s24
  refine⟨_,rfl,t2,_,_,_,rfl,rfl,SqT.of (s24 _ _ h2),rfl,_,k,rfl,⟨aqX (ayI ok) (amP hd) (amP hw),by have:=ok.2.1;omega⟩,_,rfl,?_⟩
  cases c2:tb (abK kd kw (aaD y m) ((mo / 1440-k+1+6)%7)) k.toNat with
  |false=>
   have z:=q' H4 ok e sA
   rw[sh2 c1 c2] at z
   exact abB z
  |true=>
   refine aa5 ⟨_,rfl,p,aJ,dx,_,_,rfl,s24 _ _ hp2,ZZ.aa.cl,ZZ.al,aeW ..,_,rfl,t,_,_,_,rfl,rfl,SqT.of ((s2.trans s24) _ _ h1),rfl,m1,_,rfl,⟨hn.2.1,by omega⟩,_,rfl,?_⟩
   cases c3:tb m1 (mo%1440 / 60).toNat with
   |false=>
    have z:=q' H4 ok e sA
    rw[sh3 c1 c2 c3] at z
    exact abB z
   |true=>
    refine aa5 ⟨_,rfl,p,aJ,dx,_,_,rfl,s24 _ _ hp2,ZZ.aa.cl,ZZ.ah,acV ..,_,rfl,t,_,_,_,rfl,rfl,SqT.of ((s2.trans s24) _ _ h1),rfl,m0,_,rfl,⟨hn.1,by omega⟩,_,rfl,?_⟩
    cases c4:tb m0 (mo%1440%60).toNat with
    |false=>
     have z:=q' H4 ok e sA
     rw[sh4 c1 c2 c3 c4] at z
     exact abB z
    |true=>
     have z:=q' H4 ok e sA
     rw[sh5 c1 c2 c3 c4] at z
     exact aa5 z
theorem agD:DfM P w K mg base aJ "holds" 8 ["self","moment"] (aoP K aJ aB aE aF aH aD aA aG aI):=by
 refine ZZ.db.dfs anZ (fun vs H Q E h=>?_) (fun f cdv A outer s H vs Q E hr h=>?_)
 ·obtain⟨_,_,_,_,_,_,_,_,_,_,_,rfl,_⟩:=h
  rfl
 obtain⟨p,dx,m0,m1,m3,tm,mo,dv,wv,kd,kw,rfl,hp,hn,hd,hw,q⟩:=h
 refine⟨_,(ss1 (aaG (agR adF (eMe ZZ.aa.cl (abS ZZ) hr (v_ 0) (aC (v_ 1) aN)) eN))),?_⟩
 exact⟨_,rfl,p,dx,_,rfl,hp,abP ..,_,rfl,p,dx,m0,m1,m3,tm,mo,dv,wv,kd,kw,rfl,hp,hn,hd,hw,fun y m k H' ok e s=>⟨rfl,q y m k H' ok e s⟩⟩
theorem al3:Df P w K mg base "next_month" 1 ["year","month"] (al1 K):=by
 refine ZZ.cw.dfs al8 (fun vs H Q E h=>?_) (fun f cdv A outer s H vs Q E hr h=>?_)
 ·obtain⟨_,rfl,_⟩:=h
  rfl
 obtain⟨N,rfl,q⟩:=h
 refine⟨_,(ssC (sIf (tCm oEq (v_ 1) eI) (ss1 (aaG (aaX (aC (eOp aaN (v_ 0) eI) (aC eI aN))))) ssN)
   (ss1 (aaG (aaX (aC (v_ 0) (aC (eOp aaN (v_ 1) eI) aN)))))),?_⟩
 refine⟨_,rfl,rfl,_,rfl,ifI (fun c=>?_) (fun c=>?_)⟩
 ·refine⟨_,rfl,_,_,rfl,rfl,(zL 2),fun t ht=>q t _ (aaB ht _) ?_⟩
  rw[show (N+1) / 12=N / 12+1 by omega,show (N+1)%12+1=1 by omega]
  exact aaA
 ·refine⟨_,rfl,_,rfl,_,_,rfl,rfl,(zL 2),fun t ht=>q t _ (aaB ht _) ?_⟩
  rw[show (N+1) / 12=N / 12 by omega,show (N+1)%12+1=N%12+1+1 by omega]
  exact aaA
theorem ajD:Df P w K mg base "month_before" 1 ["year","month"] (ai2 K):=by
 refine ZZ.b8.dfs ajH (fun vs H Q E h=>?_) (fun f cdv A outer s H vs Q E hr h=>?_)
 ·obtain⟨_,rfl,_⟩:=h
  rfl
 obtain⟨N,rfl,q⟩:=h
 refine⟨_,(ssC (sIf (tCm oEq (v_ 1) eI) (ss1 (aaG (aaX (aC (eOp abE (v_ 0) eI) (aC eI aN))))) ssN)
   (ss1 (aaG (aaX (aC (v_ 0) (aC (eOp abE (v_ 1) eI) aN)))))),?_⟩
 refine⟨_,rfl,rfl,_,rfl,ifI (fun c=>?_) (fun c=>?_)⟩
 ·refine⟨_,rfl,_,_,rfl,rfl,(zL 2),fun t ht=>q t _ (aaB ht _) ?_⟩
  rw[show (N-1) / 12=N / 12-1 by omega,show (N-1)%12+1=12 by omega]
  exact aaA
 ·refine⟨_,rfl,_,rfl,_,_,rfl,rfl,(zL 2),fun t ht=>q t _ (aaB ht _) ?_⟩
  rw[show (N-1) / 12=N / 12 by omega,show (N-1)%12+1=N%12+1-1 by omega]
  exact aaA
theorem aiI:Df P w K mg base "month_of" 5 ["moment"] (aqZ K):=by
 refine ZZ.d0.dfs sc_month_of (fun vs H Q E h=>?_) (fun f cdv A outer s H vs Q E hr h=>?_)
 ·obtain⟨_,rfl,_⟩:=h
  rfl
 obtain⟨mo,rfl,q⟩:=h
 refine⟨_,(ssC (aaH 1 (eD (af8 ZZ) hr (aC (eOp afY (v_ 0) (eGl (v:=.int 1440) ZZ.ac ⟨_,rfl⟩)) aN)) sc_month_of.nd)
   (ss1 (aaG (aaX (aC (eIx xT (v_ 1) eI) (aC (eIx xT (v_ 1) eI) aN)))))),?_⟩
 refine⟨_,rfl,_,_,rfl,rfl,⟨by decide,by decide⟩,mo / 1440,rfl,fun y m k p H1 ok e s1 hp=>?_⟩
 refine⟨_,rfl,p,_,_,_,rfl,rfl,SqT.of hp,rfl,_,rfl,p,_,_,_,rfl,rfl,SqT.of hp,rfl,(zL 2),fun t ht=>?_⟩
 have hm:=ok.1
 have e1:(12*y+m-1) / 12=y:=by omega
 have e2:(12*y+m-1)%12+1=m:=by omega
 have u:=ae0 (12*y+m-1)
 unfold alZ at u
 have d:ag2 (12*y+m-1)=db y+ahead y m:=by unfold ag2;rw[e1,e2]
 rw[e1,e2,d] at u
 have hk:=ok.2
 have e':db y+ahead y m+k-1=mo / 1440:=e
 refine q (12*y+m-1) t _ (s1.trans (aaB ht _)) (by rw[d];omega) (by rw[u];omega) ?_
 rw[e1,e2]
 exact aaA
theorem alO:Df P w K mg base "minutes_on" 1 ["days"] (al2 K):=by
 refine ZZ.cx.dfs sc_minutes_on (fun vs H Q E h=>?_) (fun f cdv A outer s H vs Q E hr h=>?_)
 ·obtain⟨_,_,rfl,_⟩:=h
  rfl
 obtain⟨d,ts,rfl,hS,hl,ht,q⟩:=h
 refine⟨_,(ssC (aaH 1 eI sc_minutes_on.nd)
   (ssC (afW (iE ZZ.am (v_ 0)) (gTu (gsC (gN 2 sc_minutes_on.nd) (gsC (gN 3 sc_minutes_on.nd) gsN))) (ss1 (aaH 1 (eOp oOr (v_ 1) (eOp aBD (v_ 3) (eOp ab7 (eGl (v:=.int 1440) ZZ.ac ⟨_,rfl⟩) (v_ 2)))) sc_minutes_on.nd)) PassesOwn.never)
   (ss1 (aaG (v_ 1))))),?_⟩
 refine⟨_,rfl,d,rfl,⟨_,hS⟩,akX (K:=K) (a:=d) (xs:=ts.map V.int) (fun i σ H2=>∃(u1 u2:Option V),σ=[some (.ref d),some (.int (mnN (fun j=>ts.getD j 0) i)),u1,u2]/\Same H H2) ⟨_,_,rfl,Same.refl _⟩ (fun i σ H2 _ ⟨_,_,_,s2⟩=>s2.seq hS) ?_ ?_⟩
 ·rintro i x σ H2 T hx ⟨u1,u2,rfl,s2⟩ hT
  rw[bE] at hx
  cases ew:ts[i]? with
  |none=>rw[ew] at hx;cases hx
  |some z=>
   rw[ew] at hx
   obtain rfl:V.int z=x:=bA hx
   have hz:=ht z (bP ew)
   have hi:=(dB.mp ew).1
   have ez:ts.getD i 0=z:=by rw[List.getD_eq_getElem?_getD,ew];rfl
   have ee:mnN (fun j=>ts.getD j 0) (i+1)=Builtin.bitOr (mnN (fun j=>ts.getD j 0) i) (z*2^(1440*i)):=by
    show Builtin.bitOr _ (ts.getD i 0*_)=_
    rw[ez]
   refine⟨T,_,rfl,SqT.of aaA,rfl,_,_,rfl,_,_,rfl,rfl,?_⟩
   refine⟨_,rfl,_,rfl,_,rfl,_,_,rfl,rfl,.inl ⟨by decide,by decide⟩,_,_,rfl,rfl,⟨by omega,by omega,?_⟩,_,_,rfl,rfl,?_⟩
   ·have:=hz.1
    have:=hz.2
    have e:((z.natAbs:Nat):Int)<((2^1440:Nat):Int):=by rw[aaY];omega
    exact Int.ofNat_lt.mp e
   ·rw[show (1440*(i:Int)).toNat=1440*i by omega]
    exact⟨_,_,by rw[ee];rfl,s2.trans (aaB hT _)⟩
 ·rintro σ H2 ⟨u1,u2,rfl,s2⟩
  rw[aU]
  exact⟨_,rfl,q H2 s2⟩
theorem am2:Df P w K mg base "lowest" 1 ["mask"] (avE K):=by
 refine ZZ.el.dfs avG (fun vs H Q E h=>?_) (fun f cdv A outer s H vs Q E hr h=>?_)
 ·obtain⟨_,_,rfl,_⟩:=h
  rfl
 obtain⟨m,k,rfl,hm,hk,hj,q⟩:=h
 refine⟨_,(ss1 (aaG (eOp abE (eBL (eOp avQ (v_ 0) (eUn aqU (v_ 0)))) eI))),?_⟩
 refine⟨_,rfl,_,rfl,_,rfl,_,_,rfl,rfl,rfl,_,rfl,rfl,_,_,rfl,rfl,?_⟩
 show Q (.int (((Builtin.Int.intBits (Builtin.bitAnd m (-m)):Nat):Int)-1)) H
 rw[azR hm hk hj,axQ,show (((k+1:Nat):Int)-1)=k by omega]
 exact q
theorem ag5:Df P w K mg base "last_shut_day" 7 ["row","day"] (ahF K aB aE aF aH aD aA aG aI aJ):=by
 refine ZZ.bx.dfs sc_last_shut_day (fun vs H Q E h=>?_) (fun f cdv A outer s H vs Q E hr h=>?_)
 ·obtain⟨_,_,_,_,_,_,_,_,_,_,_,_,rfl,_⟩:=h
  rfl
 obtain⟨tw,p,dx,m0,m1,m3,tm,d,dv,wv,kd,kw,rfl,hp,hn,hd,hw,hsh,q⟩:=h
 refine⟨_,(ssC (aaH 2 (eD (af8 ZZ) hr (aC (v_ 1) aN)) sc_last_shut_day.nd)
   (ssC (aaH 3 (eD (adM ZZ) hr (aC (eIx xT (v_ 2) eI) (aC (eIx xT (v_ 2) eI) aN))) sc_last_shut_day.nd)
   (ssC (aaH 4 (eOp axC (eMe ZZ.aa.cl (acJ ZZ) hr (v_ 0) (aC (v_ 3) aN)) (eIx xT (v_ 2) eI)) sc_last_shut_day.nd)
   (ssC (sIf (tCm oEq (v_ 4) eI) (ss1 (aaG (eOp abE (eOp aaN (v_ 1) (eIx xT (eD (ad9 ZZ) hr (aC (v_ 3) aN)) eI)) (eIx xT (v_ 2) eI)))) ssN)
   (ss1 (aaG (eOp abE (eOp aaN (v_ 1) (eD (am2 ZZ) hr (aC (v_ 4) aN))) eI))))))),?_⟩
 refine⟨_,rfl,d,rfl,fun y m k t H1 ok e s1 h1=>?_⟩
 have mk:=ab9 (y:=y) ok.1.1 ok.1.2
 have kl:=ajS (y:=y) ok.1.1 ok.1.2
 refine⟨_,rfl,t,_,_,_,rfl,rfl,SqT.of (h1),rfl,_,rfl,t,_,_,_,rfl,rfl,SqT.of (h1),rfl,y,m,rfl,ok.1,fun H2 s2=>?_⟩
 have s12:=s1.trans s2
 refine⟨_,rfl,p,dx,_,rfl,s12 _ _ hp,ab0 ..,_,rfl,p,dx,m0,m1,m3,tm,kindOf y m,dv,wv,kd,kw,rfl,s12 _ _ hp,kl,hn.2.2,hd.keep s12,hw.keep s12,fun H3 s3=>?_⟩
 have s13:=s12.trans s3
 rw[mk.1,mk.2,ajO ok e]
 obtain⟨D,eD⟩:∃D,D=(if tb m3 m.toNat=true then abK kd kw (aaD y m) ((d-k+1+6)%7) else 0):=⟨_,rfl⟩
 rw[←eD]
 have nnD:0<=abK kd kw (aaD y m) ((d-k+1+6)%7):=aqX (ayI ok) (amP hd) (amP hw)
 have D0:0<=D/\tb D k.toNat=false:=by
  rw[eD]
  rcases hsh y m k ok e with ⟨_,z⟩ | ⟨_,z,z2⟩
  ·rw[if_neg (by rw[z];decide)]
   exact⟨aX 0,aa4 _⟩
  ·rw[if_pos z]
   exact⟨nnD,z2⟩
 have DL:D<2^((aaD y m).toNat+1):=by
  rw[eD]
  split
  ·exact ax9 (ayI ok) (amP hd) (amP hw)
  ·exact aaO _
 have day:∀j:Nat,k+j<=aaD y m->tb D (k.toNat+j)=false->awT m3 kd kw (d+j) tw:=fun j hj hb y' m' k' ok' e'=>by
  have hk0:=ok.2.1
  obtain⟨rfl,rfl,rfl⟩:=auS (show OkD y m (k+j) from ⟨ok.1,by omega,hj⟩) ok' (by rw[e',←e];unfold adI;omega)
  rcases hsh y m k ok e with ⟨z0,z⟩ | ⟨z0,z,z2⟩
  ·exact .inl ⟨z0,z⟩
  ·refine .inr ⟨z0,z,?_⟩
   rw[eD,if_pos z] at hb
   rw[show d+(j:Int)-(k+(j:Int))+1+6=d-k+1+6 by omega,show (k+(j:Int)).toNat=k.toNat+j by omega]
   exact hb
 have hk:=ok.2
 refine⟨_,rfl,t,_,_,_,rfl,rfl,SqT.of ((s2.trans s3) _ _ h1),rfl,_,_,rfl,rfl,(by show (0:Int)<=k;omega),?_⟩
 refine⟨_,rfl,rfl,_,rfl,ifI (fun c=>?_) (fun c=>?_)⟩
 ·refine⟨_,rfl,_,rfl,kindOf y m,rfl,kl,fun t2 H4 s4 h4=>?_⟩
  rw[agT,mk.1,mk.2] at h4
  refine⟨t2,_,_,_,rfl,rfl,SqT.of h4,rfl,_,_,rfl,rfl,_,rfl,t,_,_,_,rfl,rfl,SqT.of ((s2.trans (s3.trans s4)) _ _ h1),rfl,_,_,rfl,rfl,q _ _ (by omega) (fun d' a b=>?_) (s13.trans s4)⟩
  have z:=day (d'-d).toNat (by omega) (by rw[←adG D0.1,c,aa4])
  rw[show d+((d'-d).toNat:Int)=d' by omega] at z
  exact z
 ·have X0:0<D / 2^k.toNat:=by
   have:0<=D / 2^k.toNat:=c7 D0.1 (bJ (aaO _))
   omega
  obtain⟨l,hl,hj⟩:=atQ X0
  have l1:1<=l:=by
   rcases Nat.eq_zero_or_pos l with z | z
   ·rw[z,adG D0.1,Nat.add_zero,D0.2] at hl
    cases hl
   ·exact z
  have hl2:tb D (k.toNat+l)=true:=by rw[←adG D0.1];exact hl
  have hle:k.toNat+l<=(aaD y m).toNat:=by
   rcases Nat.lt_or_ge (aaD y m).toNat (k.toNat+l) with w' | w'
   ·rw[acP DL w'] at hl2
    cases hl2
   ·exact w'
  refine⟨_,rfl,_,rfl,_,l,rfl,X0,hl,hj,_,_,rfl,rfl,_,_,rfl,rfl,q _ _ (by omega) (fun d' a b=>?_) s13⟩
  have z:=day (d'-d).toNat (by omega) (by rw[←adG D0.1];exact hj _ (by omega))
  rw[show d+((d'-d).toNat:Int)=d' by omega] at z
  exact z
theorem aqV:Df P w K mg base "shut_end" 8 ["row","moment","word"] (apC K aB aE aF aH aD aA aG aI aJ):=by
 refine ZZ.d1.dfs aq7 (fun vs H Q E h=>?_) (fun f cdv A outer s H vs Q E hr h=>?_)
 ·obtain⟨_,_,_,_,_,_,_,_,_,_,_,_,rfl,_⟩:=h
  rfl
 obtain⟨p,dx,tw,m0,m1,m3,tm,d,dv,wv,kd,kw,rfl,hp,hn,hd,hw,hsh,q⟩:=h
 refine⟨_,(ssC (sIf (tCm oEq (v_ 2) (eSx [109,105,110,117,116,101])) (ss1 (aaG (v_ 1))) ssN)
   (ssC (sIf (tCm oEq (v_ 2) (eSx [104,111,117,114])) (ss1 (aaG (eOp abE (eOp aaN (eOp abE (v_ 1) (eOp abG (v_ 1) (eGl (v:=.int 60) ZZ.ae ⟨_,rfl⟩))) (eGl (v:=.int 60) ZZ.ae ⟨_,rfl⟩)) eI))) ssN)
   (ss1 (aaG (eOp abE (eOp aaN (eOp ab7 (eGl (v:=.int 1440) ZZ.ac ⟨_,rfl⟩) (eD (ag5 ZZ) hr (aC (v_ 0) (aC (eOp afY (v_ 1) (eGl (v:=.int 1440) ZZ.ac ⟨_,rfl⟩)) aN)))) (eGl (v:=.int 1440) ZZ.ac ⟨_,rfl⟩)) eI))))),?_⟩
 refine⟨_,rfl,rfl,_,rfl,ifX (fun c=>?_) (fun c=>?_)⟩
 ·exact⟨_,rfl,q _ _ (aX _) (fun z=>absurd c z) (fun t a b=>by rw[show t=d by omega];exact hsh) (Same.refl _)⟩
 refine⟨_,rfl,rfl,_,rfl,ifX (fun c2=>?_) (fun c2=>?_)⟩
 ·subst c2
  exact⟨_,rfl,_,rfl,_,_,rfl,rfl,(by show (0:Int)<60;decide),_,_,rfl,rfl,_,_,rfl,rfl,_,_,rfl,rfl,q _ _ (by omega) (fun _=>by omega) (fun t a b=>azE hsh (by omega) (by omega)) (Same.refl _)⟩
 ·exact⟨_,rfl,_,rfl,_,_,rfl,rfl,⟨by decide,by decide⟩,tw,p,dx,m0,m1,m3,tm,d / 1440,dv,wv,kd,kw,rfl,hp,hn,hd,hw,aCB hsh c c2,fun r H1 hr1 hr2 s1=>⟨_,_,rfl,rfl,.inl ⟨by decide,by decide⟩,_,_,rfl,rfl,_,_,rfl,rfl,q _ _ (by omega) (fun _=>by omega) (fun t a b=>aCZ (hr2 _ (by omega) (by omega))) s1⟩⟩
theorem akN:Df P w K mg base "add_stretch" 1 ["stretches","first","last","told"] (alD K):=by
 refine ZZ.ck.dfs akC (fun vs H Q E h=>?_) (fun f cdv A outer s H vs Q E hr h=>?_)
 ·obtain⟨_,_,_,_,_,_,rfl,_⟩:=h
  rfl
 obtain⟨p,vs',sts,a,b,tm,rfl,hp,hP,hl,q⟩:=h
 refine⟨_,(ss1 (sIf (tW (aqR (tCm (oNeE hr.units) (v_ 0) (abM aN)) (ajW (tCm oEq (eIx xT (eIx xL (v_ 0) (eUn aqU eI)) eI) (v_ 3))))) (ss1 (aj4 (aaX (aC (eIx xT (eIx xL (v_ 0) (eUn aqU eI)) eI) (aC (v_ 2) (aC (v_ 3) aN)))) (gSb (v_ 0) (eUn aqU eI)))) (ss1 (alX (ao6 (v_ 0) (aaX (aC (v_ 1) (aC (v_ 2) (aC (v_ 3) aN))))))))),?_⟩
 refine⟨_,rfl,(zL 0),fun l hl0=>⟨p,l,vs',rfl,rfl,SqL.of ((aaB hl0 _) _ _ hp),SqL.of aaA,_,rfl,?_⟩⟩
 have s0:=aaB hl0 (.lst [])
 have hp0:=s0 _ _ hp
 have app:∀{H1:Hp} (t:Addr),Same H H1->H1 t=none->∀z:TrX,Paired (TpX (upd (upd H1 t (.tup [.int z.1,.int z.2.1,.str (Tx z.2.2)])) p (.lst (vs'++[.ref t])))) (vs'++[.ref t]) (sts++[z]):=fun {H1} t s1 ht z=>by
  have tp:t≠p:=fun e=>by rw[e,s1 _ _ hp] at ht;cases ht
  have g:∀b xs,H b=some (.tup xs)->upd (upd H1 t (.tup [.int z.1,.int z.2.1,.str (Tx z.2.2)])) p (.lst (vs'++[.ref t])) b=some (.tup xs):=fun b xs hb=>by
   rw[aaF (fun e=>by rw[e,hp] at hb;cases hb)]
   exact (s1.trans (aaB ht _)) _ _ hb
  exact acR (Paired.mapP hP fun _ _ y=>aj1 g y) ⟨t,rfl,by rw[aaF tp,aaA]⟩
 have oth:∀{H1:Hp} (t:Addr) (o u:HO),Same H H1->H1 t=none->∀q o',q≠p->H q=some o'->upd (upd H1 t o) p u q=some o':=fun {H1} t o u s1 ht q o' nq hq=>by
  rw[aaF nq]
  exact (s1.trans (aaB ht o)) _ _ hq
 by_cases c:vs'=[]
 ·subst c
  cases hP
  refine aa5 (aa5 ⟨_,rfl,.inl ⟨rfl,_,SqL.of hp0⟩,_,rfl,_,rfl,_,rfl,(zL 3),fun t ht=>⟨p,_,_,rfl,rfl,(aaB ht _) _ _ hp0,(by show 0<sizeLine;decide),q _ _ aaA (app t s0 ht (a,b,tm)) (oth t _ _ s0 ht)⟩⟩)
 obtain⟨l0,v,rfl⟩:=aAM c
 obtain⟨st0,z,rfl,hP0,t0,rfl,ht0⟩:=ax4 hP
 rw[ahW] at q
 rw[dR c]
 have ht00:=s0 _ _ ht0
 refine abB ⟨_,rfl,_,rfl,p,_,_,_,rfl,rfl,SqL.of hp0,auO,t0,_,_,_,rfl,rfl,SqT.of ht00,rfl,_,rfl,rfl,_,rfl,ifX (fun ce=>?_) (fun ce=>?_)⟩
 ·rw[if_pos ce] at q
  refine⟨_,rfl,_,rfl,p,_,_,_,rfl,rfl,SqL.of hp0,auO,t0,_,_,_,rfl,rfl,SqT.of ht00,rfl,_,rfl,_,rfl,(zL 3),fun t ht=>?_⟩
  have s1:=aaB ht (.tup [.int z.1,.int b,.str (Tx tm)])
  have tp:t≠p:=fun e=>by rw[e,hp0] at ht;cases ht
  refine⟨_,rfl,_,rfl,p,_,_,_,rfl,rfl,s1 _ _ hp0,aAF,?_⟩
  rw[ax5]
  have g:∀b' xs,H b'=some (.tup xs)->upd (upd (upd H l (.lst [])) t (.tup [.int z.1,.int b,.str (Tx tm)])) p (.lst (l0++[.ref t])) b'=some (.tup xs):=fun b' xs hb=>by
   rw[aaF (fun e=>by rw[e,hp] at hb;cases hb)]
   exact (s0.trans s1) _ _ hb
  exact q _ _ aaA (acR (Paired.mapP hP0 fun _ _ y=>aj1 g y) ⟨t,rfl,by rw[aaF tp,aaA]⟩) (oth t _ _ s0 ht)
 ·rw[if_neg ce] at q
  exact⟨_,rfl,.inl ⟨rfl,_,SqL.of hp0⟩,_,rfl,_,rfl,_,rfl,(zL 3),fun t ht=>⟨p,_,_,rfl,rfl,(aaB ht _) _ _ hp0,(by rw[dO];omega),q _ _ aaA (app t s0 ht (a,b,tm)) (oth t _ _ s0 ht)⟩⟩
theorem aiG:Df P w K mg base "paper_of" 9 ["row","begin","end"] (aqN K aB aE aF aH aD aA aG aI aJ):=by
 refine ZZ.d2.dfs sc_paper_of (fun vs H Q E h=>?_) (fun f cdv A outer s H vs Q E hr h=>?_)
 ·obtain⟨_,_,_,_,_,_,_,_,rfl,_⟩:=h
  rfl
 obtain⟨p,b,e,m0,m1,m3,kd,kw,rfl,hR,hE,hbe,q⟩:=h
 refine⟨_,(ssC (aaH 3 (abM aN) sc_paper_of.nd)
   (ssC (aaH 4 (v_ 1) sc_paper_of.nd)
   (ssC (sWh (tCm oLe (v_ 4) (v_ 2)) (ssC (aaH 5 (eMe ZZ.aa.cl (abS ZZ) hr (v_ 0) (aC (v_ 4) aN)) sc_paper_of.nd)
   (ssC (aaH 6 (eCB aNZ ZZ.dp PyProof.Rows.boot_min (aC (eD (aqV ZZ) hr (aC (v_ 0) (aC (v_ 4) (aC (v_ 5) aN)))) (aC (v_ 2) aN))) sc_paper_of.nd)
   (ssC (alX (eD (akN ZZ) hr (aC (v_ 3) (aC (v_ 4) (aC (v_ 6) (aC (v_ 5) aN))))))
   (ss1 (aaH 4 (eOp aaN (v_ 6) eI) sc_paper_of.nd))))) PassesOwn.never)
   (ss1 (aaG (v_ 3)))))),?_⟩
 have hg:=hR.ok
 obtain⟨dx,dv,wv,hp,hn,hb,hd,hw⟩:=hR
 refine⟨(zL 0),fun l hl=>⟨_,rfl,?_⟩⟩
 refine ag7 (fun σ H2=>∃(mo:Int) (us:List V) (sts:List TrX) (u5 u6:Option V),σ=[some (.ref p),some (.int b),some (.int e),some (.ref l),some (.int mo),u5,u6]/\H2 l=some (.lst us)/\Paired (TpX H2) us sts/\Same H H2/\b<=mo/\(mo<=e->(sts.length:Int)<=2*(mo / 60-b / 60)+lmX sts)/\(e<b->us=[])/\(∀s∈sts,aqI m0 m1 m3 kd kw b (mo-1) s)/\(∀s,sts.getLast? =some s->s.2.1+1=mo)/\(mo<=e+1∨mo=b)/\us.length<=10000000) (fun σ _=>match σ[4]? with | some (some (V.int mo))=>(e+1-mo).toNat | _=>0) ⟨b,[],[],_,_,rfl,aaA,.nil,aaB hl _,aX _,(fun _=>by rw[Int.sub_self];decide),(fun _=>rfl),(fun s hs=>nomatch hs),(fun s hs=>by cases hs),.inr rfl,bO _⟩ ?_
 rintro σ H2 ⟨mo,us,sts,u5,u6,rfl,h2,hP,s2,hbm,hlen,hemp,hpc,hla2,hend,hsz⟩
 refine⟨_,rfl,_,rfl,_,_,rfl,rfl,_,rfl,ifD (fun c=>?_) (fun c=>?_)⟩
 ·refine⟨_,fun _ _ h=>h,?_⟩
  refine⟨_,rfl,p,dx,_,rfl,s2 _ _ hp,abP ..,_,rfl,p,dx,m0,m1,m3,tmF m1 m0,mo,dv,wv,kd,kw,rfl,s2 _ _ hp,hn,hd.keep s2,hw.keep s2,fun y m k H3 ok ed s3=>?_⟩
  have s23:=s2.trans s3
  obtain⟨tw,etw,hday⟩:=az9 (fun z=>hE mo hbm c (aI4 hn hb hg ok ed z))
  have hwd:ak3 m0 m1 m3 kd kw mo (.str (Tx tw)):=fun y' m' k' ok' e'=>by
   obtain⟨rfl,rfl,rfl⟩:=auS ok ok' (ed.trans e'.symm)
   exact etw
  rw[etw]
  refine⟨_,rfl,_,rfl,_,rfl,p,dx,tw,m0,m1,m3,tmF m1 m0,mo,dv,wv,kd,kw,rfl,s23 _ _ hp,hn,hd.keep s23,hw.keep s23,hwd,fun r H4 hr1 hr2 hr3 s4=>⟨_,rfl,_,_,rfl,?_⟩⟩
  obtain⟨la,ela⟩:∃la,la=if e<r then e else r:=⟨_,rfl⟩
  show abV _ (V.int (if e<r then e else r)) _ _ _
  rw[←ela]
  have hla:mo<=la/\la<=e/\(la<e->la=r):=by
   rw[ela]
   split<;>omega
  have hlen':=hlen c
  have pl:=af7 hP
  have l1:=ayX sts
  have g34:∀b' xs,H2 b'=some (.tup xs)->H4 b'=some (.tup xs):=fun b' xs z=>s4 _ _ (s3 _ _ z)
  refine⟨_,rfl,_,rfl,_,rfl,_,rfl,l,us,sts,mo,la,tw,rfl,s4 _ _ (s3 _ _ h2),Paired.mapP hP (fun _ _ z=>aj1 g34 z),by omega,fun H5 us' h5 hP5 oth=>?_⟩
  refine⟨_,rfl,_,_,rfl,rfl,?_⟩
  obtain⟨pc1,pc2⟩:=aCW (tw:=tw) hpc hla2 hbm hla.1 (fun t a b=>hr3 t a (by rcases (show la<e∨la=e by omega) with w' | w';(· have:=hla.2.2 w';omega);(· rw[ela] at b;split at b<;>omega)))
  have al:=(apY sts mo la tw).1
  have pl5:=af7 hP5
  refine⟨_,(by show (e+1-(la+1)).toNat<(e+1-mo).toNat;omega),rfl,la+1,us',_,_,_,rfl,h5,hP5,fun q' o hq=>oth q' o (fun z=>by rw[z,hl] at hq;cases hq) (s4 _ _ (s23 _ _ hq)),by omega,(fun z=>awJ hlen' hla.1 fun n=>?_),(fun z=>?_),(by rw[show la+1-1=la by omega];exact pc1),pc2,.inl (by omega),by omega⟩
  ·have:=hr2 n
   have:=hla.2.2 (by omega)
   omega
  ·omega
 ·exact⟨_,rfl,q l us sts H2 hl s2 h2 hP (fun s hs=>by
   obtain⟨a1,a2,a3,a4⟩:=hpc s hs
   exact⟨a1,a2,by omega,a4⟩) hsz hemp⟩
theorem aeT:DfM P w K mg base aJ "on_days" 7 ["self","kind"] (aeO K aJ aB aE aF aH aD aA aG aI):=by
 refine ZZ.cl.dfs sc_Row_on_days (fun vs H Q E h=>?_) (fun f cdv A outer s H vs Q E hr h=>?_)
 ·obtain⟨_,_,_,_,_,_,_,_,_,_,_,rfl,_⟩:=h
  rfl
 obtain⟨p,dx,m0,m1,m3,tm,k,dv,wv,kd,kw,rfl,hp,hk,hm,hd,hw,q⟩:=h
 refine⟨_,(ssK (aaH 2 (eMe ZZ.aa.cl (acJ ZZ) hr (v_ 0) (aC (v_ 1) aN)) sc_Row_on_days.nd)
   (ssK (aaH 3 (eIx xT (eD (ad9 ZZ) hr (aC (v_ 1) aN)) eI) sc_Row_on_days.nd)
   (ss1 (aaG (apV ["days","self"] [2,0] (iR2 ZZ.ab (aC eI (aC (eOp aaN (v_ 3) eI) aN))) (fun _ _ _ _ _ _=>fsN) (fun _ _ _ _ _ _=>(eIf (tVa (eD (af5 ZZ) hr (aC (v_ 1) (aC (v_ 0) aN)))) (eFlc (K:=K) (v_ 2)) eI))))))),?_⟩
 refine⟨fun σ' H'=>σ'=[some (.ref p),some (.int k),some (.int (dIn m3 kd kw k)),none]/\Same H H',⟨_,rfl,p,dx,_,rfl,hp,ab0 ..,_,rfl,p,dx,m0,m1,m3,tm,k,dv,wv,kd,kw,rfl,hp,hk,hm,hd,hw,fun H1 s1=>⟨rfl,s1⟩⟩,?_⟩
 rintro σ' H1 ⟨rfl,s1⟩
 have ml:=(agV hk.1 hk.2).2.1
 refine⟨fun σ' H'=>σ'=[some (.ref p),some (.int k),some (.int (dIn m3 kd kw k)),some (.int (lnA k))]/\Same H1 H',⟨_,rfl,k,rfl,hk,fun t H2 s2 h2=>⟨t,_,_,_,rfl,rfl,SqT.of (by rw[agT] at h2;exact h2),rfl,rfl,s2⟩⟩,?_⟩
 rintro σ' H2 ⟨rfl,s2⟩
 refine⟨_,rfl,_,_,rfl,rfl,_,_,rfl,⟨by decide,by decide,by omega,by omega⟩,adL (fun i l=>l=((List.range i).map (aaU tm m3 kd kw k)).map V.int) (by show (lnA k+1-1).toNat<=sizeLine;rw[dO];omega) rfl ?_ ?_⟩
 ·intro i l D H3 E' F' hi hR hD s3 hl hE hF
  subst hR
  have hp3:=(s1.trans (s2.trans s3)) _ _ hp
  have et:(1+(i:Int)).toNat=i+1:=by omega
  have fin:∀v:Int,v=aaU tm m3 kd kw k i->E' (.int v) H3:=fun v ev=>hE _ _ (Same.refl _) (by rw[ev,List.range_succ,bC,bC];rfl)
  refine⟨_,rfl,_,rfl,dIn m3 kd kw k,_,rfl,⟨aDY hd hw hk.1 hk.2,by omega⟩,_,rfl,?_⟩
  rw[et]
  by_cases c:tb (dIn m3 kd kw k) (i+1)=true
  ·rw[c]
   exact abB ⟨_,rfl,p,aJ,dx,_,_,rfl,hp3,ZZ.aa.cl,ZZ.a2,ak4 ..,fin tm (by unfold aaU;rw[if_pos c])⟩
  ·rw[show tb (dIn m3 kd kw k) (i+1)=false by simpa using c]
   exact aa5 (fin 0 (by unfold aaU;rw[if_neg c]))
 ·intro D H3 l hR hD s3 hl
  subst hR
  refine q D H3 (s1.trans (s2.trans s3)) ?_
  rw[hl]
  unfold acL
  rw[show (lnA k+1-1).toNat=(lnA k).toNat by omega]
theorem aqS{HA:Hp}{f c' a p:Addr}{qual:Str}{params:Arguments}{body:Expr}{scope:Scope}{pm ctv:Value}{o0:Obj}{u0:Value}{m0 m1 m3:Int}{kd kw:Option (List Mk)}(S:LamScope "kind" "row" scope)
  (hb:∀(s:Shared) (u:Value),BindsTo s (PySem.W.kla_fn "<lambda>" qual params body scope [("row",a)] pm (.ref c') ctv) ⟨[u],[]⟩ [("kind",u)])
  (hB:∀(A:Around) (outer:List Env) (s:Shared) (H1:Hp),Room 7 (acO P w K mg base ["kind","row"] qual scope s.heap.objs.size f c' [("row",a)] A outer s H1).A->L2.E (acO P w K mg base ["kind","row"] qual scope s.heap.objs.size f c' [("row",a)] A outer s H1) body (ayM aJ "on_days" (aeO K aJ aB aE aF aH aD aA aG aI) [] E0 (ay0 1) (aeF (ay0 0) alG)))
  (hf:HA f=some (abY f (ar1 qual params body scope "row" a pm c' ctv))) (hc:HA c'=some (al4 c' qual)) (ha:HA a=some (abY a o0)) (ho:o0.data=.cell (some u0)) (r0:RelV (.ref p) u0)
  (hR:RowR (⟨aB,aE,aF,aH,aD,aA,aG,aI⟩:Cs) aJ (era HA a) p m0 m1 m3 kd kw):aoR P w K mg base 8 HA f (aaU (tmF m1 m0) m3 kd kw):=by
 refine⟨⟨_,_,_,_,hf⟩,fun H1 k Q s1 k0 k1 q=>?_⟩
 intro A outer s us hr e0 rv
 obtain⟨u,rfl,ru⟩:∃u,us=[u]/\RelV (.int k) u:=by
  cases rv with
  |cons r rn=>cases rn;exact⟨_,rfl,r⟩
 obtain⟨dx,dv,wv,hp,hn,hb2,hd,hw⟩:=hR
 have se:Same (era HA a) (era H1 a):=fun b o e=>by
  obtain⟨nb,e⟩:=ax2 e
  rw[abI nb]
  exact s1 _ _ e
 refine aCI S hr e0 (hb s u) ru (s1 _ _ hf) (s1 _ _ hc) (s1 _ _ ha) ho r0 (hB A outer s (era H1 a) (hr.deeper _)) ?_
 refine⟨_,rfl,p,dx,_,rfl,se _ _ hp,ai1 ..,_,rfl,p,dx,m0,m1,m3,tmF m1 m0,k,dv,wv,kd,kw,rfl,se _ _ hp,⟨k0,k1⟩,hn.2.2,hd.keep se,hw.keep se,fun D H' s' hD na=>q D _ (fun b o e=>?_) ?_⟩
 ·by_cases z:b=a
  ·rw[z] at e ⊢
   rw[s1 _ _ ha] at e
   rw[aaA]
   exact e
  ·rw[aaF z]
   exact s' _ _ (by rw[abI z];exact e)
 ·rw[aaF (fun z=>by rw[z,na] at hD;cases hD)]
  exact hD
theorem afN:Df P w K mg base "minutes_by" 9 ["known","on_days","kind"] (al7 P w mg base K):=by
 refine ZZ.cy.dfs alM (fun vs H Q E h=>?_) (fun f cdv A outer s H vs Q E hr h=>?_)
 ·obtain⟨_,_,_,_,_,_,rfl,_⟩:=h
  rfl
 obtain⟨kn,f,kd,kvs,g,H0,rfl,hk,hkn,hK,hl,hg,h0,s0,hD,q⟩:=h
 refine⟨_,(ssC (sIf (tDnt hr (v_ 2) (v_ 0)) (ss1 (sDpt hr (v_ 0) (v_ 2) (eD (alO ZZ) hr (aC (aDU (k:=8) hr (v_ 1) (aC (v_ 2) aN)) aN)))) ssN)
   (ss1 (aaG (eDg hr (v_ 0) (v_ 2))))),?_⟩
 refine⟨_,rfl,_,rfl,kn,_,rfl,DGet.k (k:=.inl kd) hkn,_,rfl,?_⟩
 cases e:acI kvs (.inl kd) with
 |none=>
  have hF:=auX s0 hD.1
  refine abB ⟨_,rfl,f,rfl,hF,_,rfl,hF,hD.2 H kd _ s0 hk.1 hk.2 fun D H2 s2 h2=>⟨D,acL g kd,rfl,SqL.of h2,aGF g hk.1 hk.2,aH0 hg,fun H3 s3=>?_⟩⟩
  have s23:=s2.trans s3
  refine⟨_,rfl,_,rfl,kn,_,rfl,.inl ⟨kvs,.inl kd,s23 _ _ hkn,rfl,by rw[dO];omega,rfl⟩,?_⟩
  exact⟨_,rfl,_,rfl,kn,_,rfl,.inl ⟨_,.inl kd,.inl aaA,rfl,(by rw[apR,if_pos rfl];rfl)⟩,q _ _ aaA (aDF hK kd) (aeM _ _ _) fun b o n hb=>by rw[aaF n];exact s23 _ _ hb⟩
 |some v=>
  have ev:=hK kd v e
  subst ev
  exact aa5 ⟨_,rfl,_,rfl,kn,_,rfl,.inl ⟨_,.inl kd,.inl hkn,rfl,e.symm⟩,q kvs H hkn hK (by omega) fun _ _ _ hb=>hb⟩
theorem arJ:Df P w K mg base "first_at" 10 ["on_days","moment"] (apA P w mg base K):=by
 refine ZZ.d3.dfs sc_first_at (fun vs H Q E h=>?_) (fun f cdv A outer s H vs Q E hr h=>?_)
 ·obtain⟨_,_,_,rfl,_⟩:=h
  rfl
 obtain⟨f,mo,g,rfl,hg,hD,q,q0⟩:=h
 refine⟨_,(ssC (aaH 2 (eD (aiI ZZ) hr (aC (v_ 1) aN)) sc_first_at.nd)
   (ssC (aaH 3 eDi sc_first_at.nd)
   (ssC (afW (iR1 ZZ.ab (aC (eGl (v:=.int 492) ZZ.a7 ⟨_,rfl⟩) aN)) (gN 4 sc_first_at.nd) (ssC (aaH 5 (eOp ab7 (eGl (v:=.int 1440) ZZ.ac ⟨_,rfl⟩) (eD (ag3 ZZ) hr (aC (eIx xT (v_ 2) eI) (aC (eIx xT (v_ 2) eI) (aC eI aN))))) sc_first_at.nd)
   (ssC (aaH 6 (eCB cMax ZZ.es PyProof.Rows.boot_max (aC (eOp abE (v_ 1) (v_ 5)) (aC eI aN))) sc_first_at.nd)
   (ssC (aaH 7 (eOp axC (eD (afN ZZ) hr (aC (v_ 3) (aC (v_ 0) (aC (eD (adM ZZ) hr (aC (eIx xT (v_ 2) eI) (aC (eIx xT (v_ 2) eI) aN))) aN)))) (v_ 6)) sc_first_at.nd)
   (ssC (sIf (tCm oNe (v_ 7) eI) (ss1 (aaG (eOp aaN (eOp aaN (v_ 5) (v_ 6)) (eD (am2 ZZ) hr (aC (v_ 7) aN))))) ssN)
   (ss1 (aaH 2 (eD (al3 ZZ) hr (aC (eIx xT (v_ 2) eI) (aC (eIx xT (v_ 2) eI) aN))) sc_first_at.nd)))))) PassesOwn.never)
   (ss1 (aaG eN))))),?_⟩
 have hc:=asU hg
 refine⟨_,rfl,mo,rfl,fun M0 t0 H1 s1 a1 a2 ht0=>fun kn hkn=>?_⟩
 have hkH:H kn=none:=by
  cases z:H kn with
  |none=>rfl
  |some o=>rw[s1 _ _ z] at hkn;cases hkn
 have sk:=aaB hkn (.dK [])
 refine⟨_,rfl,by decide,by decide,abW (fun i σ H2=>∃(tt:Addr) (kvs:List (Key×V)) (u4 u5 u6 u7:Option V),σ=[some (.ref f),some (.int mo),some (.ref tt),some (.ref kn),u4,u5,u6,u7]/\H2 tt=some (.tup [.int ((M0+i) / 12),.int ((M0+i)%12+1)])/\H2 kn=some (.dK kvs)/\av2 g kvs/\kvs.length<=i/\Same H H2/\∀t,mo<=t->t<SM (M0+i)->¬EvG g t) ⟨t0,[],_,_,_,_,rfl,by rw[show M0+((0:Nat):Int)=M0 by omega];exact sk _ _ ht0,aaA,fun _ _ z=>(by cases z),aS _,s1.trans sk,fun t h1 h2=>by rw[show M0+((0:Nat):Int)=M0 by omega] at h2;unfold SM at h2;omega⟩ ?turn ?done⟩
 case done=>
  rintro σ H2 ⟨tt,kvs,u4,u5,u6,u7,rfl,htt,hk2,hK,hl,s2,hno⟩
  exact q0 H2 s2 (as2 hc a1 a2 hno)
 case turn=>
  rintro i σ H2 hi ⟨tt,kvs,u4,u5,u6,u7,rfl,htt,hk2,hK,hl,s2,hno⟩
  obtain⟨M,eM⟩:∃M,M=M0+(i:Int):=⟨_,rfl⟩
  rw[←eM] at htt hno
  have hi2:i<492:=hi
  have lm:=ajQ M
  refine⟨_,rfl,tt,_,_,_,rfl,rfl,SqT.of (htt),rfl,_,rfl,tt,_,_,_,rfl,rfl,SqT.of (htt),rfl,(M / 12),(M%12+1),1,rfl,⟨⟨by omega,by omega⟩,by omega,by have h:28<=aaD (M / 12) (M%12+1):=lm.1;omega⟩,fun H3 s3=>⟨_,_,rfl,rfl,.inl ⟨by decide,by decide⟩,?_⟩⟩
  have eS:1440*(db (M / 12)+ahead (M / 12) (M%12+1)+1-1)=SM M:=by unfold SM ag2;omega
  show abV _ (V.int (1440*(db (M / 12)+ahead (M / 12) (M%12+1)+1-1))) _ _ _
  rw[eS]
  refine⟨_,rfl,_,rfl,_,_,rfl,rfl,_,_,rfl,?_⟩
  show abV _ (V.int (if 0>mo-SM M then 0 else mo-SM M)) _ _ _
  rw[aDW]
  have s23:=s2.trans s3
  refine⟨_,rfl,_,rfl,_,rfl,tt,_,_,_,rfl,rfl,SqT.of (s3 _ _ htt),rfl,_,rfl,tt,_,_,_,rfl,rfl,SqT.of (s3 _ _ htt),rfl,(M / 12),(M%12+1),rfl,⟨by omega,by omega⟩,fun H4 s4=>?_⟩
  have s24:=s23.trans s4
  refine⟨kn,f,acS M,kvs,g,H,rfl,ac1 M,s4 _ _ (s3 _ _ hk2),hK,by omega,hg,hkH,s24,hD,fun kvs' H5 h5 hK5 hl5 k5=>?_⟩
  have s5:Same H H5:=fun b o hb=>k5 b o (fun z=>by rw[z,hkH] at hb;cases hb) (s24 _ _ hb)
  have nt:tt≠kn:=fun z=>by rw[z,hk2] at htt;cases htt
  have ht5:H5 tt=_:=k5 tt _ nt (s4 _ _ (s3 _ _ htt))
  refine⟨_,rfl,_,_,rfl,rfl,(by show (0:Int)<=max (mo-SM M) 0;omega),?_⟩
  refine⟨_,rfl,rfl,_,rfl,aD2 (fun c=>?_) (fun c=>?_)⟩
  ·have X0:0<WM g M / 2^(max (mo-SM M) 0).toNat:=by
    have:0<=WM g M / 2^(max (mo-SM M) 0).toNat:=c7 (hc.nn M) (bJ (aaO _))
    have c':¬WM g M / 2^(max (mo-SM M) 0).toNat=0:=c
    omega
   obtain⟨l,hl',hj⟩:=atQ X0
   obtain⟨b1,b2,b3⟩:=avY hc hno hl' hj
   have far:=an3 M0 492
   have a1':SM M0<=mo:=a1
   have up:=hc.mono (show M+1<=M0+(492:Nat) by omega)
   have hb':=hc.bit M _ (by rw[←adG (hc.nn M)];exact hl')
   refine⟨_,rfl,_,rfl,_,_,rfl,rfl,_,rfl,_,l,rfl,X0,hl',hj,_,_,rfl,rfl,q _ H5 s5 b1 b2 b3 ?_⟩
   omega
  ·refine⟨_,rfl,tt,_,_,_,rfl,rfl,SqT.of (ht5),rfl,_,rfl,tt,_,_,_,rfl,rfl,SqT.of (ht5),rfl,M,rfl,fun t6 H6 s6 h6=>?_⟩
   refine⟨t6,kvs',_,_,_,_,rfl,by rw[show M0+((i+1:Nat):Int)=M+1 by omega];exact h6,s6 _ _ h5,hK5,by omega,s5.trans s6,?_⟩
   rw[show M0+((i+1:Nat):Int)=M+1 by omega]
   exact arR hc hno c
theorem aqP:Df P w K mg base "final_at" 10 ["on_days","moment"] (apK P w mg base K):=by
 refine ZZ.d4.dfs sc_final_at (fun vs H Q E h=>?_) (fun f cdv A outer s H vs Q E hr h=>?_)
 ·obtain⟨_,_,_,rfl,_⟩:=h
  rfl
 obtain⟨f,mo,g,rfl,hg,hD,q,q0⟩:=h
 refine⟨_,(ssC (aaH 2 (eD (aiI ZZ) hr (aC (v_ 1) aN)) sc_final_at.nd)
   (ssC (aaH 3 eDi sc_final_at.nd)
   (ssC (afW (iR1 ZZ.ab (aC (eGl (v:=.int 492) ZZ.a7 ⟨_,rfl⟩) aN)) (gN 4 sc_final_at.nd) (ssC (aaH 5 (eOp ab7 (eGl (v:=.int 1440) ZZ.ac ⟨_,rfl⟩) (eD (ag3 ZZ) hr (aC (eIx xT (v_ 2) eI) (aC (eIx xT (v_ 2) eI) (aC eI aN))))) sc_final_at.nd)
   (ssC (aaH 6 (eCB aNZ ZZ.dp PyProof.Rows.boot_min (aC (eOp abE (v_ 1) (v_ 5)) (aC (eGl (v:=.int 44640) ZZ.bi ⟨_,rfl⟩) aN))) sc_final_at.nd)
   (ssC (aaH 7 (eOp avQ (eD (afN ZZ) hr (aC (v_ 3) (aC (v_ 0) (aC (eD (adM ZZ) hr (aC (eIx xT (v_ 2) eI) (aC (eIx xT (v_ 2) eI) aN))) aN)))) (eOp abE (eOp aBD eI (v_ 6)) eI)) sc_final_at.nd)
   (ssC (sIf (tCm oNe (v_ 7) eI) (ss1 (aaG (eOp abE (eOp aaN (v_ 5) (eBL (v_ 7))) eI))) ssN)
   (ss1 (aaH 2 (eD (ajD ZZ) hr (aC (eIx xT (v_ 2) eI) (aC (eIx xT (v_ 2) eI) aN))) sc_final_at.nd)))))) PassesOwn.never)
   (ss1 (aaG eN))))),?_⟩
 have hc:=asU hg
 refine⟨_,rfl,mo,rfl,fun M0 t0 H1 s1 a1 a2 ht0=>fun kn hkn=>?_⟩
 have hkH:H kn=none:=by
  cases z:H kn with
  |none=>rfl
  |some o=>rw[s1 _ _ z] at hkn;cases hkn
 have sk:=aaB hkn (.dK [])
 refine⟨_,rfl,by decide,by decide,abW (fun i σ H2=>∃(tt:Addr) (kvs:List (Key×V)) (u4 u5 u6 u7:Option V),σ=[some (.ref f),some (.int mo),some (.ref tt),some (.ref kn),u4,u5,u6,u7]/\H2 tt=some (.tup [.int ((M0-i) / 12),.int ((M0-i)%12+1)])/\H2 kn=some (.dK kvs)/\av2 g kvs/\kvs.length<=i/\Same H H2/\∀t,SM (M0-i+1)<=t->t<=mo->¬EvG g t) ⟨t0,[],_,_,_,_,rfl,by rw[show M0-((0:Nat):Int)=M0 by omega];exact sk _ _ ht0,aaA,fun _ _ z=>(by cases z),aS _,s1.trans sk,fun t h1 h2=>by rw[show M0-((0:Nat):Int)=M0 by omega] at h1;unfold SM at h1;omega⟩ ?turn ?done⟩
 case done=>
  rintro σ H2 ⟨tt,kvs,u4,u5,u6,u7,rfl,htt,hk2,hK,hl,s2,hno⟩
  exact q0 H2 s2 (auZ hc a1 a2 fun t h1 h2=>hno t (by rw[show M0-((492:Int).toNat:Int)+1=M0-491 by omega];exact h1) h2)
 case turn=>
  rintro i σ H2 hi ⟨tt,kvs,u4,u5,u6,u7,rfl,htt,hk2,hK,hl,s2,hno⟩
  obtain⟨M,eM⟩:∃M,M=M0-(i:Int):=⟨_,rfl⟩
  rw[←eM] at htt hno
  have hi2:i<492:=hi
  have lm:=ajQ M
  have a1':SM M0<=mo:=a1
  have hMm:SM M<=mo:=cD (hc.mono (show M<=M0 by omega)) a1'
  have hc4:SM (M+1)-SM M<=44640:=by
   have:=an3 M 1
   have e1:M+((1:Nat):Int)=M+1:=rfl
   rw[e1] at this
   omega
  refine⟨_,rfl,tt,_,_,_,rfl,rfl,SqT.of (htt),rfl,_,rfl,tt,_,_,_,rfl,rfl,SqT.of (htt),rfl,(M / 12),(M%12+1),1,rfl,⟨⟨by omega,by omega⟩,by omega,by have h:28<=aaD (M / 12) (M%12+1):=lm.1;omega⟩,fun H3 s3=>⟨_,_,rfl,rfl,.inl ⟨by decide,by decide⟩,?_⟩⟩
  have eS:1440*(db (M / 12)+ahead (M / 12) (M%12+1)+1-1)=SM M:=by unfold SM ag2;omega
  show abV _ (V.int (1440*(db (M / 12)+ahead (M / 12) (M%12+1)+1-1))) _ _ _
  rw[eS]
  refine⟨_,rfl,_,rfl,_,_,rfl,rfl,_,_,rfl,?_⟩
  show abV _ (V.int (if 44640<mo-SM M then 44640 else mo-SM M)) _ _ _
  rw[aD1]
  have s23:=s2.trans s3
  refine⟨_,rfl,_,rfl,_,rfl,tt,_,_,_,rfl,rfl,SqT.of (s3 _ _ htt),rfl,_,rfl,tt,_,_,_,rfl,rfl,SqT.of (s3 _ _ htt),rfl,(M / 12),(M%12+1),rfl,⟨by omega,by omega⟩,fun H4 s4=>?_⟩
  have s24:=s23.trans s4
  refine⟨kn,f,acS M,kvs,g,H,rfl,ac1 M,s4 _ _ (s3 _ _ hk2),hK,by omega,hg,hkH,s24,hD,fun kvs' H5 h5 hK5 hl5 k5=>?_⟩
  have s5:Same H H5:=fun b o hb=>k5 b o (fun z=>by rw[z,hkH] at hb;cases hb) (s24 _ _ hb)
  have nt:tt≠kn:=fun z=>by rw[z,hk2] at htt;cases htt
  have ht5:H5 tt=_:=k5 tt _ nt (s4 _ _ (s3 _ _ htt))
  refine⟨_,rfl,_,_,rfl,rfl,⟨by show (0:Int)<=min (mo-SM M) 44640;omega,by show min (mo-SM M) 44640<=1000000;omega,by decide⟩,_,_,rfl,rfl,_,_,rfl,rfl,?_⟩
  refine⟨_,rfl,rfl,_,rfl,aD2 (fun c=>?_) (fun c=>?_)⟩
  ·have X0:0<Builtin.bitAnd (WM g M) (2*2^(min (mo-SM M) 44640).toNat-1):=by
    have p1:=aaO (min (mo-SM M) 44640).toNat
    have:0<=Builtin.bitAnd (WM g M) (2*2^(min (mo-SM M) 44640).toNat-1):=aj0 (hc.nn M) (by omega)
    have c':¬Builtin.bitAnd (WM g M) (2*2^(min (mo-SM M) 44640).toNat-1)=0:=c
    omega
   obtain⟨l,el,hl',hj⟩:=aAY X0
   obtain⟨b1,b2,b3⟩:=ayS hc hc4 hMm hno hl' hj
   have far:=an3 (M0-491) 492
   have up:=hc.mono (show M0-491<=M by omega)
   rw[show M0-491+((492:Nat):Int)=M0+1 by omega] at far
   have a2':mo<SM (M0+1):=a2
   refine⟨_,rfl,_,rfl,rfl,_,rfl,rfl,_,_,rfl,rfl,_,_,rfl,rfl,?_⟩
   have ee:SM M+(Builtin.Int.intBits (Builtin.bitAnd (WM g M) (2*2^(min (mo-SM M) 44640).toNat-1)):Int)-1=SM M+l:=by omega
   show Q (.int (SM M+(Builtin.Int.intBits (Builtin.bitAnd (WM g M) (2*2^(min (mo-SM M) 44640).toNat-1)):Int)-1)) H5
   rw[ee]
   exact q _ H5 s5 b1 b2 b3 (by omega)
  ·refine⟨_,rfl,tt,_,_,_,rfl,rfl,SqT.of (ht5),rfl,_,rfl,tt,_,_,_,rfl,rfl,SqT.of (ht5),rfl,M,rfl,fun t6 H6 s6 h6=>?_⟩
   refine⟨t6,kvs',_,_,_,_,rfl,by rw[show M0-((i+1:Nat):Int)=M-1 by omega];exact h6,s6 _ _ h5,hK5,by omega,s5.trans s6,?_⟩
   rw[show M0-((i+1:Nat):Int)+1=M by omega]
   exact avN hc hc4 hMm hno c
theorem agO:Df P w K mg base "next_from" 11 ["row","moment"] (anQ K aB aE aF aH aD aA aG aI aJ aK aL aM):=by
 refine ZZ.dc.dfs sc_next_from (fun vs H Q E h=>?_) (fun f A outer s H vs Q E hr h=>?_)
 ·obtain⟨_,_,_,_,_,_,_,rfl,_⟩:=h
  rfl
 obtain⟨p,mo,m0,m1,m3,kd,kw,rfl,hR,hT,q⟩:=h
 refine⟨_,(ssC (aaH 2 (axU "row" 0 (arJ ZZ) hr (aC (aFZ ZZ.cq) (aC (v_ 1) aN))) sc_next_from.nd)
   (ssC (sIf (tCm adF (v_ 2) eN) (ss1 (aaG (aaX (aC eN (aC (abM aN) aN))))) ssN)
   (ss1 (aaG (aaX (aC (v_ 2) (aC (eD (aiG ZZ) hr (aC (v_ 0) (aC (v_ 1) (aC (eOp abE (v_ 2) eI) aN)))) aN))))))),?_⟩
 delta azD ar5 asC aeF
 refine ap7 (tN:=aK) (tL:=aL) hT.1 hT.2.1 hT.2.2.1 hT.2.2.2 (fun f' HL hL=>⟨_,rfl,_,rfl,fun ha o0 u0 ho r0=>?_⟩)
 obtain⟨hf0,sN,⟨c',ctv,hf,hc⟩,t1,t2⟩:=hL
 have nf:f'≠_:=fun z=>by rw[z,ha] at hf;cases hf
 have nc:c'≠_:=fun z=>by rw[z,ha] at hc;cases hc
 have hg:=hR.ok
 have tab:∀{H'},Same HL H'->aiS H' aK aL aM:=fun s=>ac5 s ⟨t1,t2,hT.2.2.1,ahJ sN hT.2.2.2⟩
 refine⟨f',mo,aaU (tmF m1 m0) m3 kd kw,rfl,hg,?hD,fun e H' s' ev h1 h2 h3=>⟨s' _ _ aaA,?_⟩,fun H' s' hno=>⟨s' _ _ aaA,?_⟩⟩
 case hD=>
  refine aqS ZZ ?hS ?hB1 ?hB2 ((aaF nf).trans hf) ((aaF nc).trans hc) aaA ho r0 (RowR.keepN (sN.trans (abU (ac0 ha (Same.refl _)))) hR)
  case hS=>exact⟨rfl,rfl,rfl,by decide +kernel,rfl,rfl,by decide +kernel,by decide +kernel⟩
  case hB1=>exact fun s u=>.of_eq rfl
  case hB2=>exact fun A outer s H1 hr=>eMe ZZ.aa.cl (aeT ZZ) hr (v_ 1) (aC (v_ 0) aN)
 ·have sE:=ac0 ha s'
  have sNE:=sN.trans (abU sE)
  refine⟨_,rfl,rfl,_,rfl,ifD (fun c=>by cases c) (fun _=>?_)⟩
  refine⟨_,rfl,_,rfl,_,rfl,_,rfl,_,_,rfl,rfl,p,mo,(e-1),m0,m1,m3,kd,kw,rfl,RowR.keepN sNE hR,fun t a b=>h2 t a (by omega),by omega,fun l us sts H2 hl s2 hl2 hP hpc hsz hemp=>⟨(zL 2),fun t ht=>?_⟩⟩
  have s3:=s2.trans (aaB ht (.tup [.int e,.ref l]))
  exact q t l us _ (.int e) (sNE.trans (abU s3)) (tab (sE.trans s3)) (agC sNE hl) aaA (aaB ht _ _ _ hl2) (.inl ⟨e,rfl,ev,⟨h1,h2⟩,(fun z=>hemp (by omega)),hsz,sts,Paired.mapP hP (fun _ _ z=>aj1 (fun b xs hb=>aaB ht _ _ _ hb) z),hpc⟩)
 ·have sE:=ac0 ha s'
  have sNE:=sN.trans (abU sE)
  refine⟨_,rfl,rfl,_,rfl,ifD (fun _=>?_) (fun c=>absurd rfl c)⟩
  refine⟨(zL 0),fun l hl=>⟨(zL 2),fun t ht=>?_⟩⟩
  have s3:=(aaB hl (.lst [])).trans (aaB ht (.tup [.non,.ref l]))
  exact q t l [] _ .non (sNE.trans (abU s3)) (tab (sE.trans s3)) (agC sNE hl) aaA (aaB ht _ _ _ aaA) (.inr ⟨rfl,hno⟩)
theorem af6:Df P w K mg base "last_to" 11 ["row","moment"] (arV K aB aE aF aH aD aA aG aI aJ aK aL aM):=by
 refine ZZ.eg.dfs sc_last_to (fun vs H Q E h=>?_) (fun f A outer s H vs Q E hr h=>?_)
 ·obtain⟨_,_,_,_,_,_,_,rfl,_⟩:=h
  rfl
 obtain⟨p,mo,m0,m1,m3,kd,kw,rfl,hR,hT,q⟩:=h
 refine⟨_,(ssC (aaH 2 (axU "row" 0 (aqP ZZ) hr (aC (aFZ ZZ.dm) (aC (v_ 1) aN))) sc_last_to.nd)
   (ssC (sIf (tCm adF (v_ 2) eN) (ss1 (aaG (aaX (aC eN (aC (abM aN) aN))))) ssN)
   (ss1 (aaG (aaX (aC (v_ 2) (aC (eD (aiG ZZ) hr (aC (v_ 0) (aC (eOp aaN (v_ 2) eI) (aC (v_ 1) aN)))) aN))))))),?_⟩
 delta azD ar5 asC aeF
 refine ap7 (tN:=aL) (tL:=aK) hT.2.1 hT.1 hT.2.2.1.symm hT.2.2.2 (fun f' HL hL=>⟨_,rfl,_,rfl,fun ha o0 u0 ho r0=>?_⟩)
 obtain⟨hf0,sN,⟨c',ctv,hf,hc⟩,t1,t2⟩:=hL
 have nf:f'≠_:=fun z=>by rw[z,ha] at hf;cases hf
 have nc:c'≠_:=fun z=>by rw[z,ha] at hc;cases hc
 have hg:=hR.ok
 have tab:∀{H'},Same HL H'->aiS H' aK aL aM:=fun s=>ac5 s ⟨t2,t1,hT.2.2.1,ahJ sN hT.2.2.2⟩
 refine⟨f',mo,aaU (tmF m1 m0) m3 kd kw,rfl,hg,?hD,fun e H' s' ev h1 h2 h3=>⟨s' _ _ aaA,?_⟩,fun H' s' hno=>⟨s' _ _ aaA,?_⟩⟩
 case hD=>
  refine aqS ZZ ?hS ?hB1 ?hB2 ((aaF nf).trans hf) ((aaF nc).trans hc) aaA ho r0 (RowR.keepN (sN.trans (abU (ac0 ha (Same.refl _)))) hR)
  case hS=>exact⟨rfl,rfl,rfl,by decide +kernel,rfl,rfl,by decide +kernel,by decide +kernel⟩
  case hB1=>exact fun s u=>.of_eq rfl
  case hB2=>exact fun A outer s H1 hr=>eMe ZZ.aa.cl (aeT ZZ) hr (v_ 1) (aC (v_ 0) aN)
 ·have sE:=ac0 ha s'
  have sNE:=sN.trans (abU sE)
  refine⟨_,rfl,rfl,_,rfl,ifD (fun c=>by cases c) (fun _=>?_)⟩
  refine⟨_,rfl,_,rfl,_,rfl,_,_,rfl,rfl,_,rfl,p,(e+1),mo,m0,m1,m3,kd,kw,rfl,RowR.keepN sNE hR,fun t a b=>h2 t (by omega) b,by omega,fun l us sts H2 hl s2 hl2 hP hpc hsz hemp=>⟨(zL 2),fun t ht=>?_⟩⟩
  have s3:=s2.trans (aaB ht (.tup [.int e,.ref l]))
  exact q t l us _ (.int e) (sNE.trans (abU s3)) (tab (sE.trans s3)) (agC sNE hl) aaA (aaB ht _ _ _ hl2) (.inl ⟨e,rfl,ev,⟨h1,h2⟩,(fun z=>hemp (by omega)),hsz,sts,Paired.mapP hP (fun _ _ z=>aj1 (fun b xs hb=>aaB ht _ _ _ hb) z),hpc⟩)
 ·have sE:=ac0 ha s'
  have sNE:=sN.trans (abU sE)
  refine⟨_,rfl,rfl,_,rfl,ifD (fun _=>?_) (fun c=>absurd rfl c)⟩
  refine⟨(zL 0),fun l hl=>⟨(zL 2),fun t ht=>?_⟩⟩
  have s3:=(aaB hl (.lst [])).trans (aaB ht (.tup [.non,.ref l]))
  exact q t l [] _ .non (sNE.trans (abU s3)) (tab (sE.trans s3)) (agC sNE hl) aaA (aaB ht _ _ _ aaA) (.inr ⟨rfl,hno⟩)
theorem ad0:Df P w K mg base "_law_cell_at" 1 ["_law_script","_law_k"] (ai0 K):=by
 refine ZZ.b9.dfs ajB (fun vs H Q E h=>?_) (fun f cdv A outer s H vs Q E hr h=>?_)
 ·obtain⟨_,_,rfl,_⟩:=h
  rfl
 obtain⟨a,k,rfl,⟨ns,hS⟩,⟨h0,h9⟩,q⟩:=h
 refine⟨_,(ssC (sIf (tCm oLt (v_ 1) (eCB ao0 ZZ.ag PySem.boot_len (aC (v_ 0) aN))) (ss1 (aaG (eIx xL (v_ 0) (v_ 1)))) ssN)
   (ss1 (aaG (eOp abG (eOp ab7 (eOp av7 (eOp aaN (v_ 1) eI) eI) eI) eI)))),?_⟩
 refine⟨_,rfl,_,rfl,a,_,rfl,.inl hS,_,_,rfl,rfl,_,rfl,?_⟩
 refine ifD (fun c=>?_) (fun c=>?_)
 ·rw[aU] at c
  have hk:k.toNat<ns.length:=by omega
  have ek:k=((k.toNat:Nat):Int):=by omega
  have e:atI (ns.map V.int) k=some (.int ns[k.toNat]):=by
   have z:atI (ns.map V.int) ((k.toNat:Nat):Int)=some (.int ns[k.toNat]):=ae2 (by rw[bE,cJ hk];rfl)
   rw[←ek] at z
   exact z
  refine⟨_,rfl,_,rfl,a,_,_,_,rfl,rfl,hS,e,?_⟩
  exact q _
 ·refine⟨_,rfl,_,_,rfl,rfl,_,_,rfl,rfl,⟨by decide,by decide,(by show (k+2).natAbs<2^64;omega)⟩,_,_,rfl,rfl,.inr ⟨by decide,by decide⟩,_,_,rfl,rfl,(by show (0:Int)<15485863;decide),?_⟩
  exact q _
theorem aoG:Df P w K mg base "_law_stir" 1 ["_law_number"] (anW K):=by
 refine ZZ.dd.dfs sc__law_stir (fun vs H Q E h=>?_) (fun f cdv A outer s H vs Q E hr h=>?_)
 ·obtain⟨_,rfl,_⟩:=h
  rfl
 obtain⟨n,rfl,q⟩:=h
 refine⟨_,(ssC (aaH 1 (eOp abG (eOp ab7 (eOp aaN (eOp abG (v_ 0) (eOp av7 eI eI)) eI) eI) eI) sc__law_stir.nd)
   (ssC (aaH 2 (eOp abG (eOp ab7 (v_ 1) (eOp aaN (eOp abG (v_ 1) eI) eI)) eI) sc__law_stir.nd)
   (ss1 (aaG (eOp abG (eOp ab7 (v_ 2) (eOp aaN (eOp abG (v_ 2) eI) eI)) eI))))),?_⟩
 refine⟨_,rfl,_,_,rfl,rfl,⟨by decide,by decide,by decide⟩,_,_,rfl,rfl,(by rw[aHS];show (0:Int)<_;decide),_,_,rfl,rfl,_,_,rfl,rfl,.inr ⟨by decide,by decide⟩,_,_,rfl,rfl,(by show (0:Int)<4294967291;decide),?_⟩
 refine⟨_,rfl,_,rfl,_,_,rfl,rfl,(by show (0:Int)<65521;decide),_,_,rfl,rfl,_,_,rfl,rfl,aKX (by decide) (by decide),_,_,rfl,rfl,(by show (0:Int)<999999937;decide),?_⟩
 refine⟨_,rfl,_,rfl,_,_,rfl,rfl,(by show (0:Int)<32749;decide),_,_,rfl,rfl,_,_,rfl,rfl,aKX (by decide) (by decide),_,_,rfl,rfl,(by show (0:Int)<2147483629;decide),?_⟩
 exact q _ (bR _ (by decide)) (bZ _ (by decide))
theorem abH:Df P w K mg base "_law_digits" 2 ["_law_cell","_law_sizes","_law_mixed"] (alE K):=by
 refine ZZ.cm.dfs sc__law_digits (fun vs H Q E h=>?_) (fun f cdv A outer s H vs Q E hr h=>?_)
 ·obtain⟨_,_,_,_,rfl,_⟩:=h
  rfl
 obtain⟨c,a,b,ss,rfl,hS,hz,hl,q⟩:=h
 refine⟨_,(ssC (aaH 3 (abM aN) sc__law_digits.nd)
   (ssC (aaH 2 (eOr (v_ 2) (anS (agR oLt (eCB aK4 ZZ.dq PyProof.Rows.boot_abs (aC (v_ 0) aN)) (eOp av7 eI eI)))) sc__law_digits.nd)
   (ssC (afW (iL (v_ 1)) (gN 4 sc__law_digits.nd) (ss1 (sIf (tVa (v_ 2)) (ssC (aaH 0 (eD (aoG ZZ) hr (aC (v_ 0) aN)) sc__law_digits.nd)
   (ss1 (alX (ao6 (v_ 3) (eOp abG (eOp afY (v_ 0) eI) (v_ 4)))))) (ssC (alX (ao6 (v_ 3) (eOp abG (v_ 0) (v_ 4))))
   (ss1 (aaH 0 (eOp afY (v_ 0) (v_ 4)) sc__law_digits.nd))))) PassesOwn.never)
   (ss1 (aaG (v_ 3)))))),?_⟩
 refine⟨(zL 0),fun fl hfl=>?_⟩
 refine⟨_,rfl,_,rfl,aD9 (fun _=>?_) (fun _=>⟨_,rfl,_,rfl,_,_,rfl,rfl,⟨by decide,by decide,by decide⟩,_,_,rfl,rfl,?_⟩)⟩
 all_goals
  refine⟨_,rfl,a,rfl,⟨_,(aaB hfl _).seq hS⟩,ag0 (K:=K) (a:=a) (xs:=ss.map V.int) (fun i σ H2=>∃(c':Int) (b':Bool) (u:Option V) (ds:List Int),σ=[some (.int c'),some (.ref a),some (.bl b'),some (.ref fl),u]/\Same H H2/\H2 fl=some (.lst (ds.map V.int))/\Digs ds (ss.take i)) ⟨_,_,_,[],rfl,aaB hfl _,aaA,.nil⟩ (fun i σ H2 _ ⟨_,_,_,_,_,s2,_⟩=>s2.seq hS) ?_ ?_⟩
  ·rintro i x σ H2 hx ⟨c',b',u,ds,rfl,s2,hf,hd⟩
   rw[bE] at hx
   cases e:ss[i]? with
   |none=>rw[e] at hx;cases hx
   |some z=>
    rw[e] at hx
    obtain rfl:V.int z=x:=bA hx
    have hzz:=hz z (bP e)
    have et:ss.take (i+1)=ss.take i++[z]:=by rw[cF,e];rfl
    have hdl:(ds.map V.int).length<sizeLine:=by
     have q1:=hd.len
     rw[cR] at q1
     rw[aU,dO]
     omega
    have app:∀d:Int,(ds.map V.int)++[V.int d]=(ds++[d]).map V.int:=fun d=>by rw[bC];rfl
    refine⟨_,rfl,_,rfl,?_⟩
    cases b' with
    |true=>
     refine abB ⟨_,rfl,_,rfl,fun r hr0 hr1=>?_⟩
     refine⟨_,rfl,.inl ⟨rfl,_,SqL.of hf⟩,_,rfl,_,_,rfl,rfl,⟨by decide,by decide⟩,_,rfl,_,_,rfl,rfl,hzz.1,fl,_,_,rfl,rfl,hf,hdl,?_⟩
     refine⟨_,_,_,ds++[r / 8%z],rfl,abT hfl s2,by rw[app];exact aaA,?_⟩
     rw[et]
     exact hd.snoc (bR _ (Int.ne_of_gt hzz.1)) (bZ _ hzz.1)
    |false=>
     refine aa5 ⟨_,rfl,.inl ⟨rfl,_,SqL.of hf⟩,_,rfl,_,rfl,_,_,rfl,rfl,hzz.1,fl,_,_,rfl,rfl,hf,hdl,?_⟩
     refine⟨_,rfl,_,rfl,_,_,rfl,rfl,hzz,?_⟩
     refine⟨_,_,_,ds++[c'%z],rfl,abT hfl s2,by rw[app];exact aaA,?_⟩
     rw[et]
     exact hd.snoc (bR _ (Int.ne_of_gt hzz.1)) (bZ _ hzz.1)
  ·rintro σ H2 ⟨c',b',u,ds,rfl,s2,hf,hd⟩
   rw[aU,cM] at hd
   exact⟨_,rfl,q ds fl H2 s2 hf hd⟩
theorem adD:Df P w K mg base "_law_item" 1 ["_law_parts","_law_low","_law_high"] (anB K):=by
 refine ZZ.de.dfs sc__law_item (fun vs H Q E h=>?_) (fun f cdv A outer s H vs Q E hr h=>?_)
 ·obtain⟨_,_,_,_,_,_,_,rfl,_⟩:=h
  rfl
 obtain⟨p,fm,fi,la,st,lo,hi,rfl,hp,hb,q⟩:=h
 refine⟨_,(ssC (aj4 (v_ 0) (aDC (gsC (gN 3 sc__law_item.nd) (gsC (gN 4 sc__law_item.nd) (gsC (gN 5 sc__law_item.nd) (gsC (gN 6 sc__law_item.nd) gsN))))))
   (ssC (aaH 4 (eOp aaN (v_ 1) (eOp abG (v_ 4) (eOp aaN (eOp abE (v_ 2) (v_ 1)) eI))) sc__law_item.nd)
   (ssC (aaH 5 (eOp aaN (v_ 4) (eOp abG (v_ 5) (eOp aaN (eOp abE (v_ 2) (v_ 4)) eI))) sc__law_item.nd)
   (ssC (aaH 6 (eOp aaN eI (eOp abG (v_ 6) eI)) sc__law_item.nd)
   (ssC (sIf (tCm oEq (v_ 3) eI) (ss1 (aaG (aaX (aC (eSx [42]) (aC (eCT cLR ZZ.au PyProof.Rows.boot_list (aC (eCT aHE ZZ.ab boot_range (aC (v_ 1) (aC (eOp aaN (v_ 2) eI) aN))) aN)) aN))))) ssN)
   (ssC (sIf (tCm oEq (v_ 3) eI) (ss1 (aaG (aaX (aC (eOp acC (eSx [42,47]) (eCT acF ZZ.ad PyProof.Rows.boot_str (aC (v_ 6) aN))) (aC (eCT cLR ZZ.au PyProof.Rows.boot_list (aC (eCT azY ZZ.ab boot_range (aC (v_ 1) (aC (eOp aaN (v_ 2) eI) (aC (v_ 6) aN)))) aN)) aN))))) ssN)
   (ssC (sIf (tCm oEq (v_ 3) eI) (ss1 (aaG (aaX (aC (eCT acF ZZ.ad PyProof.Rows.boot_str (aC (v_ 4) aN)) (aC (abM (aC (v_ 4) aN)) aN))))) ssN)
   (ssC (sIf (tCm oEq (v_ 3) eI) (ss1 (aaG (aaX (aC (eOp acC (eOp acC (eCT acF ZZ.ad PyProof.Rows.boot_str (aC (v_ 4) aN)) (eSx [45])) (eCT acF ZZ.ad PyProof.Rows.boot_str (aC (v_ 5) aN))) (aC (eCT cLR ZZ.au PyProof.Rows.boot_list (aC (eCT aHE ZZ.ab boot_range (aC (v_ 4) (aC (eOp aaN (v_ 5) eI) aN))) aN)) aN))))) ssN)
   (ssC (sIf (tCm oEq (v_ 3) eI) (ss1 (aaG (aaX (aC (eOp acC (eOp acC (eOp acC (eOp acC (eCT acF ZZ.ad PyProof.Rows.boot_str (aC (v_ 4) aN)) (eSx [45])) (eCT acF ZZ.ad PyProof.Rows.boot_str (aC (v_ 5) aN))) (eSx [47])) (eCT acF ZZ.ad PyProof.Rows.boot_str (aC (v_ 6) aN))) (aC (eCT cLR ZZ.au PyProof.Rows.boot_list (aC (eCT azY ZZ.ab boot_range (aC (v_ 4) (aC (eOp aaN (v_ 5) eI) (aC (v_ 6) aN)))) aN)) aN))))) ssN)
   (ss1 (aaG (aaX (aC (eOp acC (eOp acC (eCT acF ZZ.ad PyProof.Rows.boot_str (aC (v_ 4) aN)) (eSx [47])) (eCT acF ZZ.ad PyProof.Rows.boot_str (aC (v_ 6) aN))) (aC (eCT cLR ZZ.au PyProof.Rows.boot_list (aC (eCT azY ZZ.ab boot_range (aC (v_ 4) (aC (eOp aaN (v_ 2) eI) (aC (v_ 6) aN)))) aN)) aN)))))))))))))),?_⟩
 have p1:0<hi-lo+1:=by omega
 have m0:=bR fi (show (hi-lo+1)≠0 by omega)
 have m1:=bZ fi p1
 refine⟨_,rfl,p,_,rfl,hp,rfl,_,_,rfl,_,_,rfl,_,_,rfl,_,_,rfl,rfl,?_⟩
 refine⟨_,rfl,_,rfl,_,rfl,_,rfl,_,_,rfl,rfl,_,_,rfl,rfl,_,_,rfl,rfl,p1,_,_,rfl,rfl,?_⟩
 obtain⟨A,eA⟩:∃A,A=lo+fi%(hi-lo+1):=⟨_,rfl⟩
 have a1:lo<=A/\A<=hi:=by omega
 show abV 4 (V.int (lo+fi%(hi-lo+1))) _ _ _
 rw[←eA]
 have p2:0<hi-A+1:=by omega
 have n0:=bR la (show (hi-A+1)≠0 by omega)
 have n1:=bZ la p2
 refine⟨_,rfl,_,rfl,_,rfl,_,rfl,_,_,rfl,rfl,_,_,rfl,rfl,_,_,rfl,rfl,p2,_,_,rfl,rfl,?_⟩
 obtain⟨B,eB⟩:∃B,B=A+la%(hi-A+1):=⟨_,rfl⟩
 have b1:A<=B/\B<=hi:=by omega
 show abV 5 (V.int (A+la%(hi-A+1))) _ _ _
 rw[←eB]
 have s0:=bR st (show (99:Int)≠0 by decide)
 have s1:=bZ st (show (0:Int)<99 by decide)
 refine⟨_,rfl,_,_,rfl,rfl,(by show (0:Int)<99;decide),_,_,rfl,rfl,?_⟩
 obtain⟨S,eS⟩:∃S,S=1+st%99:=⟨_,rfl⟩
 have ss:1<=S/\S<=99:=by omega
 show abV 6 (V.int (1+st%99)) _ _ _
 rw[←eS]
 have sm:∀z:Int,0<=z->z<=99->z.toNat<10^500/\[V.int z]=[V.int (z.toNat:Nat)]:=fun z h1 h2=>⟨aZ (show z.toNat<100 by omega) (by decide +kernel),by rw[bF h1]⟩
 have nl:∀z:Int,0<=z->z<=99->(num z.toNat).length<=2:=fun z h1 h2=>(aeG _ (by omega)).2.2.2
 have na:∀z:Int,0<=z->z<=99->Asc (num z.toNat):=fun z h1 h2=>aoU _ (by omega)
 have z4':∀{n m:Nat},n<=20->m<=20->n+m<=sizeLine:=fun {n m} h1 h2=>by rw[dO];omega
 have hA0:0<=A:=cD hb.1 a1.1
 have hA31:A<=63:=cD a1.2 hb.2.2
 have hB0:0<=B:=cD hA0 b1.1
 have hB31:B<=63:=cD b1.2 hb.2.2
 have hl31:lo<=63:=cD hb.2.1 hb.2.2
 have hh0:0<=hi:=cD hb.1 hb.2.1
 have hS0:0<S:=Int.lt_of_lt_of_le (by decide) ss.1
 have hSm:S<=1000:=cD ss.2 (by decide)
 have hSx:S<1073741824:=Int.lt_of_le_of_lt ss.2 (by decide)
 have up:∀{z:Int},z<=63->z<=1000/\z<=99:=fun h=>⟨cD h (by decide),cD h (by decide)⟩
 have dn:∀{z:Int},0<=z-> -1<=z:=fun h=>cD (by decide) h
 have tn:∀{n:Nat},n<=1001->n<=100000:=fun h=>bI h (by decide)
 have t2:∀{n:Nat},n<=2->n<=20/\n+1<=20:=fun h=>⟨bI h (by decide),bI (Nat.add_le_add_right h 1) (by decide)⟩
 have t5:∀{n m:Nat},n<=2->m<=2->n+1+m<=20/\n+1+m+1<=20:=fun h h'=>⟨bI (Nat.add_le_add (Nat.add_le_add_right h 1) h') (by decide),bI (Nat.add_le_add_right (Nat.add_le_add (Nat.add_le_add_right h 1) h') 1) (by decide)⟩
 have qA:=sm A hA0 (up hA31).2
 have qB:=sm B hB0 (up hB31).2
 have qS:=sm S (bJ hS0) ss.2
 have lA:=nl A hA0 (up hA31).2
 have lB:=nl B hB0 (up hB31).2
 have lS:=nl S (bJ hS0) ss.2
 have cA:=na A hA0 (up hA31).2
 have cB:=na B hB0 (up hB31).2
 have cS:=na S (bJ hS0) ss.2
 have c42:Asc [42]:=adV rfl
 have c45:Asc [45]:=adV rfl
 have c47:Asc [47]:=adV rfl
 clear m0 m1 n0 n1 p1 p2 eA eB s0 s1 eS
 refine⟨_,rfl,rfl,_,rfl,ifI (fun c=>?g0) (fun _=>⟨_,rfl,rfl,_,rfl,ifI (fun c=>?g1) (fun _=>⟨_,rfl,rfl,_,rfl,ifI (fun c=>?g2) (fun _=>⟨_,rfl,rfl,_,rfl,ifI (fun c=>?g3) (fun _=>⟨_,rfl,rfl,_,rfl,ifI (fun c=>?g4) (fun _=>?g5)⟩)⟩)⟩)⟩)⟩
 case g0=>
  have n2:=ac9 (a:=lo) (b:=hi) (s:=1) hb.1 (up hb.2.2).1 (by decide)
  refine⟨_,rfl,_,rfl,_,_,rfl,rfl,_,_,rfl,fun r hr=>⟨r,lo,hi+1,1,(Builtin.Range.rangeSize lo (hi+1) 1).toNat,rfl,aaA,ac3 hb.1 (up hl31).1 (dn hh0) (up hb.2.2).1 (by decide) (by decide),n2.2,tn n2.1,fun u hu=>⟨(zL 2),fun t ht=>?_⟩⟩⟩
  exact q t u [42] (acU lo hi 1) _ ((aaB hr _).trans ((aaB hu _).trans (aaB ht _))) aaA ((aaB ht _) _ _ (by rw[ab6,cC];exact aaA)) (i0 hb.1 hb.2.1 hb.2.2) c42
 case g1=>
  have n2:=ac9 (a:=lo) (b:=hi) (s:=S) hb.1 (up hb.2.2).1 hS0
  refine⟨_,rfl,S.toNat,qS.2,qS.1,_,_,rfl,rfl,z4' (by decide) (t2 lS).1,_,rfl,_,rfl,_,_,rfl,rfl,_,rfl,_,_,_,rfl,⟨hS0,hSx⟩,fun r hr=>⟨r,lo,hi+1,S,(Builtin.Range.rangeSize lo (hi+1) S).toNat,rfl,aaA,ac3 hb.1 (up hl31).1 (dn hh0) (up hb.2.2).1 hS0 hSm,n2.2,tn n2.1,fun u hu=>⟨(zL 2),fun t ht=>?_⟩⟩⟩
  exact q t u _ (acU lo hi S) _ ((aaB hr _).trans ((aaB hu _).trans (aaB ht _))) aaA ((aaB ht _) _ _ (by rw[ab6,cC];exact aaA)) (i3 hb.1 hb.2.1 hb.2.2 ss) (abF (adV rfl) cS)
 case g2=>
  refine⟨_,rfl,A.toNat,qA.2,qA.1,_,rfl,(zL 1),fun u hu=>⟨(zL 2),fun t ht=>?_⟩⟩
  exact q t u _ [A] _ ((aaB hu _).trans (aaB ht _)) aaA ((aaB ht _) _ _ aaA) (i1 hb.1 a1.1 a1.2 hb.2.2) cA
 case g3=>
  have n2:=ac9 (a:=A) (b:=B) (s:=1) hA0 (up hB31).1 (by decide)
  refine⟨_,rfl,A.toNat,qA.2,qA.1,_,_,rfl,rfl,z4' (t2 lA).1 (by decide),_,rfl,B.toNat,qB.2,qB.1,_,_,rfl,rfl,z4' (by rw[aW];exact (t2 lA).2) (t2 lB).1,_,rfl,_,rfl,_,_,rfl,rfl,_,_,rfl,fun r hr=>⟨r,A,B+1,1,(Builtin.Range.rangeSize A (B+1) 1).toNat,rfl,aaA,ac3 hA0 (up hA31).1 (dn hB0) (up hB31).1 (by decide) (by decide),n2.2,tn n2.1,fun u hu=>⟨(zL 2),fun t ht=>?_⟩⟩⟩
  exact q t u _ (acU A B 1) _ ((aaB hr _).trans ((aaB hu _).trans (aaB ht _))) aaA ((aaB ht _) _ _ (by rw[ab6,cC];exact aaA)) (by rw[List.append_assoc];exact i2 hb.1 a1.1 b1.1 b1.2 hb.2.2) (abF (abF cA c45) cB)
 case g4=>
  have n2:=ac9 (a:=A) (b:=B) (s:=S) hA0 (up hB31).1 hS0
  refine⟨_,rfl,A.toNat,qA.2,qA.1,_,_,rfl,rfl,z4' (t2 lA).1 (by decide),_,rfl,B.toNat,qB.2,qB.1,_,_,rfl,rfl,z4' (by rw[aW];exact (t2 lA).2) (t2 lB).1,_,_,rfl,rfl,z4' (by rw[aW,aW];exact (t5 lA lB).1) (by decide),_,rfl,S.toNat,qS.2,qS.1,_,_,rfl,rfl,z4' (by rw[aW,aW,aW];exact (t5 lA lB).2) (t2 lS).1,_,rfl,_,rfl,_,_,rfl,rfl,_,rfl,_,_,_,rfl,⟨hS0,hSx⟩,fun r hr=>⟨r,A,B+1,S,(Builtin.Range.rangeSize A (B+1) S).toNat,rfl,aaA,ac3 hA0 (up hA31).1 (dn hB0) (up hB31).1 hS0 hSm,n2.2,tn n2.1,fun u hu=>⟨(zL 2),fun t ht=>?_⟩⟩⟩
  have e5:((num A.toNat++[45])++num B.toNat++[47])++num S.toNat=(num A.toNat++45::num B.toNat)++47::num S.toNat:=by simp
  exact q t u _ (acU A B S) _ ((aaB hr _).trans ((aaB hu _).trans (aaB ht _))) aaA ((aaB ht _) _ _ (by rw[ab6,cC];exact aaA)) (by rw[e5];exact i5 hb.1 a1.1 b1.1 b1.2 hb.2.2 ss) (abF (abF (abF (abF cA c45) cB) c47) cS)
 case g5=>
  have n2:=ac9 (a:=A) (b:=hi) (s:=S) hA0 (up hb.2.2).1 hS0
  refine⟨_,rfl,A.toNat,qA.2,qA.1,_,_,rfl,rfl,z4' (t2 lA).1 (by decide),_,rfl,S.toNat,qS.2,qS.1,_,_,rfl,rfl,z4' (by rw[aW];exact (t2 lA).2) (t2 lS).1,_,rfl,_,rfl,_,_,rfl,rfl,_,rfl,_,_,_,rfl,⟨hS0,hSx⟩,fun r hr=>⟨r,A,hi+1,S,(Builtin.Range.rangeSize A (hi+1) S).toNat,rfl,aaA,ac3 hA0 (up hA31).1 (dn hh0) (up hb.2.2).1 hS0 hSm,n2.2,tn n2.1,fun u hu=>⟨(zL 2),fun t ht=>?_⟩⟩⟩
  exact q t u _ (acU A hi S) _ ((aaB hr _).trans ((aaB hu _).trans (aaB ht _))) aaA ((aaB ht _) _ _ (by rw[ab6,cC];exact aaA)) (by rw[List.append_assoc];exact i4 hb.1 a1.1 a1.2 hb.2.2 ss) (abF (abF cA c47) cS)
theorem abZ:Df P w K mg base "_law_numbers" 3 ["_law_cell","_law_low","_law_high","_law_mixed"] (aiT K):=by
 refine ZZ.ca.dfs sc__law_numbers (fun vs H Q E h=>?_) (fun f cdv A outer s H vs Q E hr h=>?_)
 ·obtain⟨_,_,_,_,rfl,_⟩:=h
  rfl
 obtain⟨c,lo,hi,bm,rfl,hb,q⟩:=h
 refine⟨_,(ssC (aaH 4 (eOp aaN (eOp abE (v_ 2) (v_ 1)) eI) sc__law_numbers.nd)
   (ssC (aaH 5 (eD (abH ZZ) hr (aC (v_ 0) (aC (eOp ayG (abM (aC eI aN)) (eOp axJ (abM (aC eI (aC (v_ 4) (aC (v_ 4) (aC eI aN))))) eI)) (aC (v_ 3) aN)))) sc__law_numbers.nd)
   (ssC (aaH 6 (abM aN) sc__law_numbers.nd)
   (ssC (aaH 7 (abM aN) sc__law_numbers.nd)
   (ssC (afW (iR1 ZZ.ab (aC (eOp aaN eI (eIx xL (v_ 5) eI)) aN)) (gN 8 sc__law_numbers.nd) (ssC (aj4 (eD (adD ZZ) hr (aC (eSl slL (v_ 5) (poS (eOp aaN eI (eOp ab7 eI (v_ 8)))) (poS (eOp aaN eI (eOp ab7 eI (v_ 8))))) (aC (v_ 1) (aC (v_ 2) aN)))) (gTu (gsC (gN 9 sc__law_numbers.nd) (gsC (gN 10 sc__law_numbers.nd) gsN))))
   (ssC (alX (ao6 (v_ 6) (v_ 9)))
   (ss1 (aaH 7 (eOp aLO (v_ 7) (v_ 10)) sc__law_numbers.nd)))) PassesOwn.never)
   (ss1 (aaG (aaX (aC (at9 (eSx [44]) (v_ 6)) (aC (v_ 7) aN)))))))))),?_⟩
 have hwd:(0:Int)<hi-lo+1/\hi-lo+1<1073741824:=by omega
 refine⟨_,rfl,_,rfl,_,_,rfl,rfl,_,_,rfl,rfl,?_⟩
 obtain⟨W,eW⟩:∃W,W=hi-lo+1:=⟨_,rfl⟩
 show abV 4 (V.int (hi-lo+1)) _ _ _
 rw[←eW]
 have e13:∀z∈([3,6,W,W,99,6,W,W,99,6,W,W,99]:List Int),0<z/\z<1073741824:=fun z hz=>by
  simp only[bB,List.not_mem_nil,or_false] at hz
  omega
 refine⟨_,rfl,(zL 1),fun x1 n1=>⟨_,rfl,_,rfl,(zL 4),fun x2 n2=>⟨x2,3,_,rfl,rfl,aaA,(by decide),(by decide),(zL 12),fun x3 n3=>⟨x1,x3,_,_,rfl,rfl,(aaB n3 _) _ _ ((aaB n2 _) _ _ aaA),aaA,(zL 13),fun ls hls=>⟨_,rfl,c,ls,bm,[3,6,W,W,99,6,W,W,99,6,W,W,99],rfl,SqL.of aaA,e13,(by show 13<=63;decide),fun ds p H3 s3 hp hd=>?_⟩⟩⟩⟩⟩
 have s13:Same H H3:=(aaB n1 _).trans ((aaB n2 _).trans ((aaB n3 _).trans ((aaB hls _).trans s3)))
 obtain⟨d0,e0,k0,k1⟩:=acQ (i:=0) hd rfl
 refine⟨(zL 0),fun T hT=>⟨(zL 0),fun N0 hN0=>?_⟩⟩
 have s1:=(aaB hT (.lst [])).trans (aaB hN0 (.lst []))
 have hTN:T≠N0:=fun e=>by rw[←e,aaA] at hN0;cases hN0
 refine⟨_,rfl,p,_,_,_,rfl,rfl,SqL.of (s1 _ _ hp),adE e0,_,_,rfl,rfl,_,rfl,?lo,?hi,abW (fun i σ H2=>∃(v8 v9 v10:Option V) (N:Addr) (ws:List (List Nat)) (nss:List (List Int)),σ=[some (.int c),some (.int lo),some (.int hi),some (.bl bm),some (.int W),some (.ref p),some (.ref T),some (.ref N),v8,v9,v10]/\T≠N/\Same H3 H2/\H2 T=some (.lst (ws.map fun x=>V.str (Tx x)))/\H2 N=some (.lst (nss.flatten.map V.int))/\Paired (adP lo hi) ws nss/\ws.length=i) ⟨_,_,_,N0,[],[],rfl,hTN,s1,by rw[aaF hTN];exact aaA,aaA,.nil,rfl⟩ ?turn ?done⟩
 case lo=>omega
 case hi=>omega
 case turn=>
  rintro i σ H2 hi' ⟨v8,v9,v10,N,ws,nss,rfl,tn,s2p,h2,h3,hP,lw⟩
  have hi3:i<3:=by omega
  obtain⟨w1,w2,w3,w4,ec,_⟩:∃w1 w2 w3 w4:Int,ahL (ds.map V.int) (some (1+4*(0+(i:Int)))) (some (5+4*(0+(i:Int))))=[.int w1,.int w2,.int w3,.int w4]/\True:=by
   obtain⟨w1,w2,w3,w4,ec,_⟩:=awZ (j:=1+4*i) (s0:=6) (s1:=W) (s2:=W) (s3:=99) hd (by match i,hi3 with | 0,_=>rfl | 1,_=>rfl | 2,_=>rfl) (show 1+4*(0+(i:Int))=((1+4*i:Nat):Int) by omega) (show 5+4*(0+(i:Int))=((1+4*i:Nat):Int)+4 by omega)
   exact⟨w1,w2,w3,w4,ec,trivial⟩
  refine⟨_,rfl,_,rfl,_,_,rfl,rfl,.inl ⟨by decide,by decide⟩,_,_,rfl,rfl,_,rfl,_,rfl,_,_,rfl,rfl,.inl ⟨by decide,by decide⟩,_,_,rfl,rfl,_,rfl,p,_,rfl,SqL.of (s2p _ _ hp),fun pc hpc=>?_⟩
  rw[ec]
  have s5:=aaB hpc (.lst [V.int w1,V.int w2,V.int w3,V.int w4])
  refine⟨_,rfl,_,rfl,pc,w1,w2,w3,w4,lo,hi,rfl,SqL.of aaA,⟨hb.1,by omega,by omega⟩,fun t u tw ns H6 s6 ht hu it _=>?_⟩
  have s26:Same H2 H6:=s5.trans s6
  refine⟨t,_,rfl,SqT.of ht,rfl,_,_,rfl,_,_,rfl,rfl,?_⟩
  have hT6:H6 T=some (.lst (ws.map fun x=>V.str (Tx x))):=s26 _ _ h2
  have hN6:H6 N=some (.lst (nss.flatten.map V.int)):=s26 _ _ h3
  have ia:=ab8 hP
  refine⟨_,rfl,.inl ⟨rfl,_,SqL.of hT6⟩,_,rfl,T,_,_,rfl,rfl,hT6,(by rw[aU,dO];omega),?_⟩
  have hne2:u≠T:=fun e=>by
   rw[e,hT6] at hu
   have hz:=it.2.2.2.1
   cases ws with
   |nil=>cases ns with
    |nil=>exact hz rfl
    |cons x y=>cases hu
   |cons x y=>cases ns with
    |nil=>exact hz rfl
    |cons x' y'=>cases hu
  refine⟨_,rfl,_,rfl,N,u,_,_,rfl,rfl,SqL.of (by rw[aaF (Ne.symm tn)];exact hN6),SqL.of (by rw[aaF hne2];exact hu),(by rw[aU,aU,dO];have:=it.2.2.2.2;omega),fun N' hN'=>?_⟩
  have hN'T:T≠N':=fun e=>by rw[←e,aaA] at hN';cases hN'
  refine⟨_,_,_,N',ws++[tw],nss++[ns],rfl,hN'T,?_,?_,?_,acR hP it,by rw[aW,bV,lw]⟩
  ·exact (abT hT (s2p.trans s26)).trans (aaB hN' _)
  ·rw[aaF hN'T,bC]
   exact aaA
  ·rw[List.flatten_append,List.flatten_singleton,bC]
   exact aaA
 case done=>
  rintro σ H2 ⟨v8,v9,v10,N,ws,nss,rfl,tn,s2p,h2,h3,hP,lw⟩
  have ia:=ab8 hP
  have hlen:=acX ws fun x hx=>(ia.1 x hx).2.2
  have hne:ws≠[]:=fun e=>by rw[e] at lw;simp at lw;omega
  refine⟨rfl,_,rfl,44,T,ws,rfl,rfl,SqL.of h2,(by omega),_,rfl,(zL 2),fun t ht=>?_⟩
  exact q t N _ nss.flatten _ (s13.trans (s2p.trans (aaB ht _))) aaA ((aaB ht _) _ _ h3) ia.2.1 (azA hP hne) (by have:=ia.2.2;omega) (apN hP hne (by omega))
theorem aoO:Df P w K mg base "_law_days" 3 ["_law_cell","_law_mixed"] (anN K):=by
 refine ZZ.df.dfs sc__law_days (fun vs H Q E h=>?_) (fun f cdv A outer s H vs Q E hr h=>?_)
 ·obtain⟨_,_,rfl,_⟩:=h
  rfl
 obtain⟨c,bm,rfl,q⟩:=h
 refine⟨_,(ssC (aaH 2 (eD (abH ZZ) hr (aC (v_ 0) (aC (eOp ayG (abM (aC eI (aC eI aN))) (eOp axJ (abM (aw6 [8,6,31,31,99])) eI)) (aC (v_ 1) aN)))) sc__law_days.nd)
   (ssC (aaH 3 (abM aN) sc__law_days.nd)
   (ssC (aaH 4 (abM aN) sc__law_days.nd)
   (ssC (afW (iR1 ZZ.ab (aC (eOp aaN eI (eIx xL (v_ 2) eI)) aN)) (gN 5 sc__law_days.nd) (ssC (aj4 (eSl slL (v_ 2) (poS (eOp aaN eI (eOp ab7 eI (v_ 5)))) (poS (eOp aaN eI (eOp ab7 eI (v_ 5))))) (aDC (gsC (gN 6 sc__law_days.nd) (gsC (gN 7 sc__law_days.nd) (gsC (gN 8 sc__law_days.nd) (gsC (gN 9 sc__law_days.nd) (gsC (gN 10 sc__law_days.nd) gsN)))))))
   (ssC (aj4 (eD (adD ZZ) hr (aC (abM (aC (v_ 7) (aC (v_ 8) (aC (v_ 9) (aC (v_ 10) aN))))) (aC eI (aC eI aN)))) (gTu (gsC (gN 11 sc__law_days.nd) (gsC (gN 12 sc__law_days.nd) gsN))))
   (ssK (aaH 13 (aaX (aC (eSx [110,117,109]) (aC (v_ 12) (aC eI aN)))) sc__law_days.nd)
   (ssK (sIf (tCm oEq (v_ 6) eI) (ss1 (aj4 (aaX (aC (eSx [76]) (aC (aaX (aC (eSx [108,97,115,116]) (aC eI (aC eI aN)))) aN))) (gTu (gsC (gN 11 sc__law_days.nd) (gsC (gN 13 sc__law_days.nd) gsN))))) ssN)
   (ssK (sIf (tCm oEq (v_ 6) eI) (ss1 (azU 11 13 (aC (eOp acC (eSx [76,45]) (eCT acF ZZ.ad PyProof.Rows.boot_str (aC (eOp aaN eI (eOp abG (v_ 8) eI)) aN))) (aC (aaX (aC (eSx [108,97,115,116]) (aC (eOp aaN eI (eOp abG (v_ 8) eI)) (aC eI aN)))) aN)) sc__law_days.nd)) ssN)
   (ssK (sIf (tCm oEq (v_ 6) eI) (ss1 (azU 11 13 (aC (eOp acC (eCT acF ZZ.ad PyProof.Rows.boot_str (aC (eOp aaN eI (v_ 8)) aN)) (eSx [87])) (aC (aaX (aC (eSx [110,101,97,114]) (aC (eOp aaN eI (v_ 8)) (aC eI aN)))) aN)) sc__law_days.nd)) ssN)
   (ssK (sIf (tCm oEq (v_ 6) eI) (ss1 (aj4 (aaX (aC (eSx [76,87]) (aC (aaX (aC (eSx [119,111,114,107]) (aC eI (aC eI aN)))) aN))) (gTu (gsC (gN 11 sc__law_days.nd) (gsC (gN 13 sc__law_days.nd) gsN))))) ssN)
   (ssC (alX (ao6 (v_ 3) (v_ 11)))
   (ss1 (alX (ao6 (v_ 4) (v_ 13)))))))))))) PassesOwn.never)
   (ssC (sIf (tW (wOr (tCm oEq (eIx xL (v_ 2) eI) eI) (af4 (tCm (aF2 hr.units) (v_ 3) (abM (aC (eSx [42]) aN)))))) (ss1 (aaG (aaX (aC (eSx [42]) (aC eN aN))))) ssN)
   (ss1 (aaG (aaX (aC (at9 (eSx [44]) (v_ 3)) (aC (v_ 4) aN)))))))))),?_⟩
 have e17:∀z∈([3,3,8,6,31,31,99,8,6,31,31,99,8,6,31,31,99]:List Int),0<z/\z<1073741824:=by decide +kernel
 refine⟨_,rfl,(zL 2),fun x1 n1=>⟨(zL 5),fun x2 n2=>⟨x2,3,_,rfl,rfl,aaA,(by decide),(by decide),(zL 15),fun x3 n3=>⟨x1,x3,_,_,rfl,rfl,(aaB n3 _) _ _ ((aaB n2 _) _ _ aaA),aaA,(zL 17),fun ls hls=>⟨_,rfl,c,ls,bm,[3,3,8,6,31,31,99,8,6,31,31,99,8,6,31,31,99],rfl,SqL.of aaA,e17,(by show 17<=63;decide),fun ds p H3 s3 hp hd=>?_⟩⟩⟩⟩⟩
 have s13:Same H H3:=(aaB n1 _).trans ((aaB n2 _).trans ((aaB n3 _).trans ((aaB hls _).trans s3)))
 obtain⟨d0,e0,_,_⟩:=acQ (i:=0) hd rfl
 obtain⟨d1,e1,k0,k1⟩:=acQ (i:=1) hd rfl
 refine⟨(zL 0),fun T hT=>⟨(zL 0),fun S hSn=>?_⟩⟩
 have s1:=(aaB hT (.lst [])).trans (aaB hSn (.lst []))
 have hTS:T≠S:=fun e=>by rw[←e,aaA] at hSn;cases hSn
 have hSn':H3 S=none:=by rw[aaF (Ne.symm hTS)] at hSn;exact hSn
 refine⟨_,rfl,p,_,_,_,rfl,rfl,SqL.of (s1 _ _ hp),adE e1,_,_,rfl,rfl,_,rfl,?lo,?hi,abW (fun i σ H2=>∃(v5 v6 v7 v8 v9 v10 v11 v12 v13:Option V) (ws:List (List Nat)) (us:List Addr) (ks:List Mk),σ=[some (.int c),some (.bl bm),some (.ref p),some (.ref T),some (.ref S),v5,v6,v7,v8,v9,v10,v11,v12,v13]/\Same H3 H2/\H2 T=some (.lst (ws.map fun x=>V.str (Tx x)))/\H2 S=some (.lst (us.map V.ref))/\Ws false ws ks/\(∀k∈ks,OkM false k)/\(∀w∈ws,Asc w)/\ws.length=i/\us.length=i) ⟨_,_,_,_,_,_,_,_,_,[],[],[],rfl,s1,by rw[aaF hTS];exact aaA,aaA,.nil,(fun k hk=>nomatch hk),(fun w hw=>nomatch hw),rfl,rfl⟩ ?turn ?done⟩
 case lo=>omega
 case hi=>omega
 case turn=>
  rintro i σ H2 hi' ⟨v5,v6,v7,v8,v9,v10,v11,v12,v13,ws,us,ks,rfl,s2p,h2,h3,hW,hO,hA,lw,lu⟩
  have hi3:i<3:=by omega
  obtain⟨w1,w2,w3,w4,w5,ec,k3⟩:=apI (j:=2+5*i) (s0:=8) (s1:=6) (s2:=31) (s3:=31) (s4:=99) hd (by match i,hi3 with | 0,_=>rfl | 1,_=>rfl | 2,_=>rfl) (show 2+5*(0+(i:Int))=((2+5*i:Nat):Int) by omega) (show 7+5*(0+(i:Int))=((2+5*i:Nat):Int)+5 by omega)
  refine⟨_,rfl,_,rfl,_,_,rfl,rfl,.inl ⟨by decide,by decide⟩,_,_,rfl,rfl,_,rfl,_,rfl,_,_,rfl,rfl,.inl ⟨by decide,by decide⟩,_,_,rfl,rfl,_,rfl,p,_,rfl,SqL.of (s2p _ _ hp),fun pc hpc=>?_⟩
  rw[ec]
  refine⟨pc,_,rfl,SqL.of aaA,rfl,_,_,rfl,_,_,rfl,_,_,rfl,_,_,rfl,_,_,rfl,rfl,?_⟩
  have s5:=aaB hpc (.lst [V.int w1,V.int w2,V.int w3,V.int w4,V.int w5])
  refine⟨_,rfl,_,rfl,_,rfl,_,rfl,(zL 4),fun qa hqa=>⟨qa,w2,w3,w4,w5,1,31,rfl,SqL.of aaA,⟨by decide,by decide,by decide⟩,fun t u0 tw ns H6 s6 ht hu it asc=>?_⟩⟩
  have s26:Same H2 H6:=s5.trans ((aaB hqa _).trans s6)
  refine⟨t,_,rfl,SqT.of ht,rfl,_,_,rfl,_,_,rfl,rfl,?_⟩
  have hin:=it.2.2.1
  have hlen':=it.2.2.2.2
  have hpos:=ahY it.2.2.2.1 (fun n hn=>by have:=hin n hn;omega)
  have sm:∀z:Int,0<=z->z<=99->z.toNat<10^500/\[V.int z]=[V.int (z.toNat:Nat)]:=fun z h1 h2=>⟨aZ (show z.toNat<100 by omega) (by decide +kernel),by rw[bF h1]⟩
  have nl:∀z:Int,0<=z->z<=99->(num z.toNat).length<=2:=fun z h1 h2=>(aeG _ (by omega)).2.2.2
  have na:∀z:Int,0<=z->z<=99->Asc (num z.toNat):=fun z h1 h2=>aoU _ (by omega)
  have z4':∀{n m:Nat},n<=20->m<=20->n+m<=sizeLine:=fun {n m} h1 h2=>by rw[dO];omega
  refine⟨(fun σ' H'=>∃(tw':List Nat) (k':Mk) (mk:Addr),σ'=[some (.int c),some (.bl bm),some (.ref p),some (.ref T),some (.ref S),some (.int (0+(i:Int))),some (.int w1),some (.int w2),some (.int w3),some (.int w4),some (.int w5),some (.str (Tx tw')),some (.ref u0),some (.ref mk)]/\Same H2 H'/\(Cl tw'/\SpT false tw' k')/\OkM false k'/\Asc tw'),⟨_,rfl,(zL 3),fun mk hmk=>⟨tw,.num (abA ns),mk,rfl,s26.trans (aaB hmk _),⟨it.2.1,rfl,it.1,hpos⟩,⟨rfl,rfl,bJ hpos⟩,asc⟩⟩,?_⟩
  rintro σ' H7 ⟨tw',k',mk,rfl,s7,hcs,hok,ha⟩
  refine⟨(fun σ' H'=>∃(tw':List Nat) (k':Mk) (mk:Addr),σ'=[some (.int c),some (.bl bm),some (.ref p),some (.ref T),some (.ref S),some (.int (0+(i:Int))),some (.int w1),some (.int w2),some (.int w3),some (.int w4),some (.int w5),some (.str (Tx tw')),some (.ref u0),some (.ref mk)]/\Same H2 H'/\(Cl tw'/\SpT false tw' k')/\OkM false k'/\Asc tw'),?_,?_⟩
  ·refine⟨_,rfl,rfl,_,rfl,ifI (fun c=>?_) (fun _=>⟨tw',k',mk,rfl,s7,hcs,hok,ha⟩)⟩
   refine⟨(zL 3),fun u hu=>⟨(zL 2),fun t2 ht2=>⟨t2,_,rfl,SqT.of aaA,rfl,_,_,rfl,_,_,rfl,rfl,?_⟩⟩⟩
   exact⟨[76],.lst 0,u,rfl,s7.trans ((aaB hu _).trans (aaB ht2 _)),⟨ayL.2,ayL.1⟩,⟨rfl,rfl,by decide,by decide⟩,adV rfl⟩
  rintro σ' H7 ⟨tw',k',mk,rfl,s7,hcs,hok,ha⟩
  refine⟨(fun σ' H'=>∃(tw':List Nat) (k':Mk) (mk:Addr),σ'=[some (.int c),some (.bl bm),some (.ref p),some (.ref T),some (.ref S),some (.int (0+(i:Int))),some (.int w1),some (.int w2),some (.int w3),some (.int w4),some (.int w5),some (.str (Tx tw')),some (.ref u0),some (.ref mk)]/\Same H2 H'/\(Cl tw'/\SpT false tw' k')/\OkM false k'/\Asc tw'),?_,?_⟩
  ·have f0:=bR w3 (show (30:Int)≠0 by decide)
   have f1:=bZ w3 (show (0:Int)<30 by decide)
   have qD:=sm (1+w3%30) (by omega) (by omega)
   have lD:=nl (1+w3%30) (by omega) (by omega)
   have z:=aCS (1+w3%30).toNat (by omega) (by omega)
   rw[bF (by omega)] at z
   refine⟨_,rfl,rfl,_,rfl,ifI (fun c=>?_) (fun _=>⟨tw',k',mk,rfl,s7,hcs,hok,ha⟩)⟩
   refine⟨_,rfl,_,_,rfl,rfl,(by show (0:Int)<30;decide),_,_,rfl,rfl,(1+w3%30).toNat,qD.2,qD.1,_,_,rfl,rfl,z4' (by decide) (by omega),_,rfl,_,_,rfl,rfl,(by show (0:Int)<30;decide),_,_,rfl,rfl,(zL 3),fun u hu=>?_⟩
   exact⟨_,_,rfl,⟨_,.lst (1+w3%30),u,rfl,s7.trans (aaB hu _),⟨z.2,z.1⟩,⟨rfl,rfl,by omega,by omega⟩,abF (adV rfl) (na _ (by omega) (by omega))⟩⟩
  rintro σ' H7 ⟨tw',k',mk,rfl,s7,hcs,hok,ha⟩
  refine⟨(fun σ' H'=>∃(tw':List Nat) (k':Mk) (mk:Addr),σ'=[some (.int c),some (.bl bm),some (.ref p),some (.ref T),some (.ref S),some (.int (0+(i:Int))),some (.int w1),some (.int w2),some (.int w3),some (.int w4),some (.int w5),some (.str (Tx tw')),some (.ref u0),some (.ref mk)]/\Same H2 H'/\(Cl tw'/\SpT false tw' k')/\OkM false k'/\Asc tw'),?_,?_⟩
  ·have qD:=sm (1+w3) (by omega) (by omega)
   have lD:=nl (1+w3) (by omega) (by omega)
   have z:=aDD (1+w3).toNat (by omega) (by omega)
   rw[bF (by omega)] at z
   refine⟨_,rfl,rfl,_,rfl,ifI (fun c=>?_) (fun _=>⟨tw',k',mk,rfl,s7,hcs,hok,ha⟩)⟩
   refine⟨_,rfl,_,_,rfl,rfl,(1+w3).toNat,qD.2,qD.1,_,_,rfl,rfl,z4' (by omega) (by decide),_,rfl,_,_,rfl,rfl,(zL 3),fun u hu=>?_⟩
   exact⟨_,_,rfl,⟨_,.nea (1+w3),u,rfl,s7.trans (aaB hu _),⟨z.2,z.1⟩,⟨rfl,rfl,by omega,by omega⟩,abF (na _ (by omega) (by omega)) (adV rfl)⟩⟩
  rintro σ' H7 ⟨tw',k',mk,rfl,s7,hcs,hok,ha⟩
  refine⟨(fun σ' H'=>∃(tw':List Nat) (k':Mk) (mk:Addr),σ'=[some (.int c),some (.bl bm),some (.ref p),some (.ref T),some (.ref S),some (.int (0+(i:Int))),some (.int w1),some (.int w2),some (.int w3),some (.int w4),some (.int w5),some (.str (Tx tw')),some (.ref u0),some (.ref mk)]/\Same H2 H'/\(Cl tw'/\SpT false tw' k')/\OkM false k'/\Asc tw'),?_,?_⟩
  ·refine⟨_,rfl,rfl,_,rfl,ifI (fun c=>?_) (fun _=>⟨tw',k',mk,rfl,s7,hcs,hok,ha⟩)⟩
   refine⟨(zL 3),fun u hu=>⟨(zL 2),fun t2 ht2=>⟨t2,_,rfl,SqT.of aaA,rfl,_,_,rfl,_,_,rfl,rfl,?_⟩⟩⟩
   exact⟨[76,87],.wrk,u,rfl,s7.trans ((aaB hu _).trans (aaB ht2 _)),⟨awY.2,awY.1⟩,⟨rfl,rfl,trivial⟩,adV rfl⟩
  rintro σ' H7 ⟨tw',k',mk,rfl,s7,hcs,hok,ha⟩
  have hT6:H7 T=some (.lst (ws.map fun x=>V.str (Tx x))):=s7 _ _ h2
  have hS6:H7 S=some (.lst (us.map V.ref)):=s7 _ _ h3
  refine⟨_,rfl,.inl ⟨rfl,_,SqL.of hT6⟩,_,rfl,T,_,_,rfl,rfl,hT6,(by rw[aU,dO];omega),?_⟩
  have hS7:(upd H7 T (.lst ((ws.map fun x=>V.str (Tx x))++[.str (Tx tw')]))) S=some (.lst (us.map V.ref)):=by rw[aaF (Ne.symm hTS)];exact hS6
  refine⟨_,rfl,.inl ⟨rfl,_,SqL.of hS7⟩,_,rfl,S,_,_,rfl,rfl,hS7,(by rw[aU,dO];omega),?_⟩
  refine⟨_,_,_,_,_,_,_,_,_,ws++[tw'],us++[mk],ks++[k'],rfl,abT hSn' (abT hT (s2p.trans s7)),?_,(by rw[bC];exact aaA),arS hW hcs,(fun k hk=>(bM.mp hk).elim (hO k) fun z=>by rw[bL.mp z];exact hok),(fun w hw=>(bM.mp hw).elim (hA w) fun z=>by rw[bL.mp z];exact ha),(by rw[aW,bV,lw]),(by rw[aW,bV,lu])⟩
  rw[aaF hTS,bC]
  exact aaA
 case done=>
  rintro σ H2 ⟨v5,v6,v7,v8,v9,v10,v11,v12,v13,ws,us,ks,rfl,s2p,h2,h3,hW,hO,hA,lw,lu⟩
  have hlen:=acX ws fun x hx=>(hW.cl x hx).2.2
  have hne:ws≠[]:=fun e=>by rw[e] at lw;simp at lw;omega
  have star:∀{H4:Hp},Same H2 H4->∀t,H4 t=none->Q (.ref t) (upd H4 t (.tup [.str (Tx [42]),.non])):=fun s4 t ht=>q t [42] .non none _ (s13.trans (s2p.trans (s4.trans (aaB ht _)))) aaA (agL false)
  refine⟨_,rfl,p,_,_,_,rfl,rfl,SqL.of (s2p _ _ hp),adE e0,rfl,_,rfl,ifI (fun _=>abB ⟨(zL 2),star (Same.refl _)⟩) (fun _=>⟨_,rfl,(zL 1),fun l1 hl1=>?_⟩)⟩
  have sl:=aaB hl1 (.lst [V.str (Tx [42])])
  refine⟨T,l1,ws,[[42]],rfl,rfl,SqL.of (sl _ _ h2),SqL.of aaA,hA,(fun w hw=>by rw[bL.mp hw];exact adV rfl),_,rfl,ifD (fun _=>⟨(zL 2),star sl⟩) (fun _=>?_)⟩
  refine⟨rfl,_,rfl,44,T,ws,rfl,rfl,SqL.of (sl _ _ h2),(by omega),_,rfl,(zL 2),fun t ht=>?_⟩
  obtain⟨ko,hko⟩:=aoV hW hne (by omega) hO
  exact q t _ (.ref S) ko _ (s13.trans (s2p.trans (sl.trans (aaB ht _)))) aaA hko
theorem ahB:Df P w K mg base "_law_weekdays" 3 ["_law_cell","_law_mixed"] (ah1 K):=by
 refine ZZ.bz.dfs sc__law_weekdays (fun vs H Q E h=>?_) (fun f cdv A outer s H vs Q E hr h=>?_)
 ·obtain⟨_,_,rfl,_⟩:=h
  rfl
 obtain⟨c,bm,rfl,q⟩:=h
 refine⟨_,(ssC (aaH 2 (eD (abH ZZ) hr (aC (v_ 0) (aC (eOp ayG (abM (aC eI (aC eI aN))) (eOp axJ (abM (aw6 [6,6,8,8,99])) eI)) (aC (v_ 1) aN)))) sc__law_weekdays.nd)
   (ssC (aaH 3 (abM aN) sc__law_weekdays.nd)
   (ssC (aaH 4 (abM aN) sc__law_weekdays.nd)
   (ssC (afW (iR1 ZZ.ab (aC (eOp aaN eI (eIx xL (v_ 2) eI)) aN)) (gN 5 sc__law_weekdays.nd) (ssC (aj4 (eSl slL (v_ 2) (poS (eOp aaN eI (eOp ab7 eI (v_ 5)))) (poS (eOp aaN eI (eOp ab7 eI (v_ 5))))) (aDC (gsC (gN 6 sc__law_weekdays.nd) (gsC (gN 7 sc__law_weekdays.nd) (gsC (gN 8 sc__law_weekdays.nd) (gsC (gN 9 sc__law_weekdays.nd) (gsC (gN 10 sc__law_weekdays.nd) gsN)))))))
   (ssC (aj4 (eD (adD ZZ) hr (aC (abM (aC (v_ 7) (aC (v_ 8) (aC (v_ 9) (aC (v_ 10) aN))))) (aC eI (aC eI aN)))) (gTu (gsC (gN 11 sc__law_weekdays.nd) (gsC (gN 12 sc__law_weekdays.nd) gsN))))
   (ssK (aaH 13 (aaX (aC (eSx [119,101,101,107]) (aC (apV [] [] (iL (v_ 12)) (fun _ _ _ _ _ _=>fsN) (fun _ _ _ _ _ _=>(eOp abG (v_ 0) eI))) (aC eI aN)))) sc__law_weekdays.nd)
   (ssK (sIf (tW (wOr (tCm oEq (v_ 6) eI) (af4 (tCm oEq (v_ 6) eI)))) (ss1 (azU 11 13 (aC (eOp acC (eOp acC (eCT acF ZZ.ad PyProof.Rows.boot_str (aC (v_ 8) aN)) (eSx [35])) (eCT acF ZZ.ad PyProof.Rows.boot_str (aC (eOp aaN eI (eOp abG (v_ 9) eI)) aN))) (aC (aaX (aC (eSx [110,116,104]) (aC (eOp abG (v_ 8) eI) (aC (eOp aaN eI (eOp abG (v_ 9) eI)) aN)))) aN)) sc__law_weekdays.nd)) ssN)
   (ssK (sIf (tCm oEq (v_ 6) eI) (ss1 (azU 11 13 (aC (eOp acC (eCT acF ZZ.ad PyProof.Rows.boot_str (aC (v_ 8) aN)) (eSx [76])) (aC (aaX (aC (eSx [101,110,100,105,110,103]) (aC (eOp abG (v_ 8) eI) (aC eI aN)))) aN)) sc__law_weekdays.nd)) ssN)
   (ssC (alX (ao6 (v_ 3) (v_ 11)))
   (ss1 (alX (ao6 (v_ 4) (v_ 13)))))))))) PassesOwn.never)
   (ssC (sIf (tW (wOr (tCm oEq (eIx xL (v_ 2) eI) eI) (af4 (tCm (aF2 hr.units) (v_ 3) (abM (aC (eSx [42]) aN)))))) (ss1 (aaG (aaX (aC (eSx [42]) (aC eN aN))))) ssN)
   (ss1 (aaG (aaX (aC (at9 (eSx [44]) (v_ 3)) (aC (v_ 4) aN)))))))))),?_⟩
 have e17:∀z∈([3,3,6,6,8,8,99,6,6,8,8,99,6,6,8,8,99]:List Int),0<z/\z<1073741824:=by decide +kernel
 refine⟨_,rfl,(zL 2),fun x1 n1=>⟨(zL 5),fun x2 n2=>⟨x2,3,_,rfl,rfl,aaA,(by decide),(by decide),(zL 15),fun x3 n3=>⟨x1,x3,_,_,rfl,rfl,(aaB n3 _) _ _ ((aaB n2 _) _ _ aaA),aaA,(zL 17),fun ls hls=>⟨_,rfl,c,ls,bm,[3,3,6,6,8,8,99,6,6,8,8,99,6,6,8,8,99],rfl,SqL.of aaA,e17,(by show 17<=63;decide),fun ds p H3 s3 hp hd=>?_⟩⟩⟩⟩⟩
 have s13:Same H H3:=(aaB n1 _).trans ((aaB n2 _).trans ((aaB n3 _).trans ((aaB hls _).trans s3)))
 obtain⟨d0,e0,_,_⟩:=acQ (i:=0) hd rfl
 obtain⟨d1,e1,k0,k1⟩:=acQ (i:=1) hd rfl
 refine⟨(zL 0),fun T hT=>⟨(zL 0),fun S hSn=>?_⟩⟩
 have s1:=(aaB hT (.lst [])).trans (aaB hSn (.lst []))
 have hTS:T≠S:=fun e=>by rw[←e,aaA] at hSn;cases hSn
 have hSn':H3 S=none:=by rw[aaF (Ne.symm hTS)] at hSn;exact hSn
 refine⟨_,rfl,p,_,_,_,rfl,rfl,SqL.of (s1 _ _ hp),adE e1,_,_,rfl,rfl,_,rfl,?lo,?hi,abW (fun i σ H2=>∃(v5 v6 v7 v8 v9 v10 v11 v12 v13:Option V) (ws:List (List Nat)) (us:List Addr) (ks:List Mk),σ=[some (.int c),some (.bl bm),some (.ref p),some (.ref T),some (.ref S),v5,v6,v7,v8,v9,v10,v11,v12,v13]/\Same H3 H2/\H2 T=some (.lst (ws.map fun x=>V.str (Tx x)))/\H2 S=some (.lst (us.map V.ref))/\Ws true ws ks/\(∀k∈ks,OkM true k)/\(∀w∈ws,Asc w)/\ws.length=i/\us.length=i) ⟨_,_,_,_,_,_,_,_,_,[],[],[],rfl,s1,by rw[aaF hTS];exact aaA,aaA,.nil,(fun k hk=>nomatch hk),(fun w hw=>nomatch hw),rfl,rfl⟩ ?turn ?done⟩
 case lo=>omega
 case hi=>omega
 case turn=>
  rintro i σ H2 hi' ⟨v5,v6,v7,v8,v9,v10,v11,v12,v13,ws,us,ks,rfl,s2p,h2,h3,hW,hO,hA,lw,lu⟩
  have hi3:i<3:=by omega
  obtain⟨w1,w2,w3,w4,w5,ec,k3⟩:=apI (j:=2+5*i) (s0:=6) (s1:=6) (s2:=8) (s3:=8) (s4:=99) hd (by match i,hi3 with | 0,_=>rfl | 1,_=>rfl | 2,_=>rfl) (show 2+5*(0+(i:Int))=((2+5*i:Nat):Int) by omega) (show 7+5*(0+(i:Int))=((2+5*i:Nat):Int)+5 by omega)
  refine⟨_,rfl,_,rfl,_,_,rfl,rfl,.inl ⟨by decide,by decide⟩,_,_,rfl,rfl,_,rfl,_,rfl,_,_,rfl,rfl,.inl ⟨by decide,by decide⟩,_,_,rfl,rfl,_,rfl,p,_,rfl,SqL.of (s2p _ _ hp),fun pc hpc=>?_⟩
  rw[ec]
  refine⟨pc,_,rfl,SqL.of aaA,rfl,_,_,rfl,_,_,rfl,_,_,rfl,_,_,rfl,_,_,rfl,rfl,?_⟩
  have s5:=aaB hpc (.lst [V.int w1,V.int w2,V.int w3,V.int w4,V.int w5])
  refine⟨_,rfl,_,rfl,_,rfl,_,rfl,(zL 4),fun qa hqa=>⟨qa,w2,w3,w4,w5,0,7,rfl,SqL.of aaA,⟨by decide,by decide,by decide⟩,fun t u0 tw ns H6 s6 ht hu it asc=>?_⟩⟩
  have s26:Same H2 H6:=s5.trans ((aaB hqa _).trans s6)
  refine⟨t,_,rfl,SqT.of ht,rfl,_,_,rfl,_,_,rfl,rfl,?_⟩
  have hin:=it.2.2.1
  have hlen':=it.2.2.2.2
  have hpos:=ahY it.2.2.2.1 (fun n hn=>by have:=hin n hn;omega)
  have sm:∀z:Int,0<=z->z<=99->z.toNat<10^500/\[V.int z]=[V.int (z.toNat:Nat)]:=fun z h1 h2=>⟨aZ (show z.toNat<100 by omega) (by decide +kernel),by rw[bF h1]⟩
  have nl:∀z:Int,0<=z->z<=99->(num z.toNat).length<=2:=fun z h1 h2=>(aeG _ (by omega)).2.2.2
  have na:∀z:Int,0<=z->z<=99->Asc (num z.toNat):=fun z h1 h2=>aoU _ (by omega)
  have z4':∀{n m:Nat},n<=20->m<=20->n+m<=sizeLine:=fun {n m} h1 h2=>by rw[dO];omega
  refine⟨(fun σ' H'=>∃(tw':List Nat) (k':Mk) (mk:Addr),σ'=[some (.int c),some (.bl bm),some (.ref p),some (.ref T),some (.ref S),some (.int (0+(i:Int))),some (.int w1),some (.int w2),some (.int w3),some (.int w4),some (.int w5),some (.str (Tx tw')),some (.ref u0),some (.ref mk)]/\Same H2 H'/\(Cl tw'/\SpT true tw' k')/\OkM true k'/\Asc tw'),?_,?_⟩
  ·refine⟨_,rfl,u0,rfl,⟨_,SqL.of hu⟩,amM (xs:=ns.map V.int) (fun i z=>z=((ns.take i).map fun d=>V.int (d%7))) (by rw[aU,dO];omega) rfl (SqL.of hu) ?_ ?_⟩
   ·intro i v z D H4 E' F' hv hR hD s4 hz hE hF
    subst hR
    rw[bE] at hv
    cases ez:ns[i]? with
    |none=>rw[ez] at hv;cases hv
    |some d=>
     rw[ez] at hv
     obtain rfl:V.int d=v:=bA hv
     exact⟨_,rfl,_,_,rfl,rfl,(by show (0:Int)<7;decide),hE _ _ (Same.refl _) (by rw[cF,ez,bC];rfl)⟩
   ·intro D H4 z hR hD s4 hz
    subst hR
    have hlt:=aj6 (n:=8) (fun z hz=>by have:=hin z hz;omega)
    have e256:(2:Int)^8=256:=by decide
    have w7:=aA3 hpos (show abA ns<=255 by omega)
    exact⟨(zL 3),fun mk hmk=>⟨tw,.wkd (wk7 (abA ns)),mk,rfl,s26.trans (s4.trans (aaB hmk _)),⟨it.2.1,rfl,abA ns,it.1,⟨hpos,by omega⟩,rfl⟩,⟨rfl,rfl,w7.2.1,w7.2.2⟩,asc⟩⟩
  rintro σ' H7 ⟨tw',k',mk,rfl,s7,hcs,hok,ha⟩
  refine⟨(fun σ' H'=>∃(tw':List Nat) (k':Mk) (mk:Addr),σ'=[some (.int c),some (.bl bm),some (.ref p),some (.ref T),some (.ref S),some (.int (0+(i:Int))),some (.int w1),some (.int w2),some (.int w3),some (.int w4),some (.int w5),some (.str (Tx tw')),some (.ref u0),some (.ref mk)]/\Same H2 H'/\(Cl tw'/\SpT true tw' k')/\OkM true k'/\Asc tw'),?_,?_⟩
  ·have f0:=bR w4 (show (5:Int)≠0 by decide)
   have f1:=bZ w4 (show (0:Int)<5 by decide)
   have qD:=sm w3 (by omega) (by omega)
   have lD:=nl w3 (by omega) (by omega)
   have qM:=sm (1+w4%5) (by omega) (by omega)
   have lM:=nl (1+w4%5) (by omega) (by omega)
   have z:=aBP w3.toNat (by omega) (1+w4%5).toNat (by omega) (by omega)
   rw[bF (by omega),bF (by omega)] at z
   refine⟨_,rfl,rfl,_,rfl,ifI (fun c=>abB ?_) (fun _=>⟨_,rfl,rfl,_,rfl,ifI (fun c=>?_) (fun _=>⟨tw',k',mk,rfl,s7,hcs,hok,ha⟩)⟩)⟩
   all_goals
    refine⟨_,rfl,w3.toNat,qD.2,qD.1,_,_,rfl,rfl,z4' (by omega) (by decide),_,rfl,_,_,rfl,rfl,(by show (0:Int)<5;decide),_,_,rfl,rfl,(1+w4%5).toNat,qM.2,qM.1,_,_,rfl,rfl,z4' (by rw[aW];show _+1<=20;omega) (by omega),_,rfl,_,_,rfl,rfl,(by show (0:Int)<7;decide),_,rfl,_,_,rfl,rfl,(by show (0:Int)<5;decide),_,_,rfl,rfl,(zL 3),fun u hu=>?_⟩
    exact⟨_,_,rfl,⟨_,.nth (w3%7) (1+w4%5),u,rfl,s7.trans (aaB hu _),⟨z.2,z.1⟩,⟨rfl,rfl,⟨by omega,by omega⟩,by omega,by omega⟩,abF (abF (na _ (by omega) (by omega)) (adV rfl)) (na _ (by omega) (by omega))⟩⟩
  rintro σ' H7 ⟨tw',k',mk,rfl,s7,hcs,hok,ha⟩
  refine⟨(fun σ' H'=>∃(tw':List Nat) (k':Mk) (mk:Addr),σ'=[some (.int c),some (.bl bm),some (.ref p),some (.ref T),some (.ref S),some (.int (0+(i:Int))),some (.int w1),some (.int w2),some (.int w3),some (.int w4),some (.int w5),some (.str (Tx tw')),some (.ref u0),some (.ref mk)]/\Same H2 H'/\(Cl tw'/\SpT true tw' k')/\OkM true k'/\Asc tw'),?_,?_⟩
  ·have qD:=sm w3 (by omega) (by omega)
   have lD:=nl w3 (by omega) (by omega)
   have z:=aFG w3.toNat (by omega)
   rw[bF (by omega)] at z
   refine⟨_,rfl,rfl,_,rfl,ifI (fun c=>?_) (fun _=>⟨tw',k',mk,rfl,s7,hcs,hok,ha⟩)⟩
   refine⟨_,rfl,w3.toNat,qD.2,qD.1,_,_,rfl,rfl,z4' (by omega) (by decide),_,rfl,_,_,rfl,rfl,(by show (0:Int)<7;decide),(zL 3),fun u hu=>?_⟩
   exact⟨_,_,rfl,⟨_,.one (w3%7),u,rfl,s7.trans (aaB hu _),⟨z.2,z.1⟩,⟨rfl,rfl,by omega,by omega⟩,abF (na _ (by omega) (by omega)) (adV rfl)⟩⟩
  rintro σ' H7 ⟨tw',k',mk,rfl,s7,hcs,hok,ha⟩
  have hT6:H7 T=some (.lst (ws.map fun x=>V.str (Tx x))):=s7 _ _ h2
  have hS6:H7 S=some (.lst (us.map V.ref)):=s7 _ _ h3
  refine⟨_,rfl,.inl ⟨rfl,_,SqL.of hT6⟩,_,rfl,T,_,_,rfl,rfl,hT6,(by rw[aU,dO];omega),?_⟩
  have hS7:(upd H7 T (.lst ((ws.map fun x=>V.str (Tx x))++[.str (Tx tw')]))) S=some (.lst (us.map V.ref)):=by rw[aaF (Ne.symm hTS)];exact hS6
  refine⟨_,rfl,.inl ⟨rfl,_,SqL.of hS7⟩,_,rfl,S,_,_,rfl,rfl,hS7,(by rw[aU,dO];omega),?_⟩
  refine⟨_,_,_,_,_,_,_,_,_,ws++[tw'],us++[mk],ks++[k'],rfl,abT hSn' (abT hT (s2p.trans s7)),?_,(by rw[bC];exact aaA),arS hW hcs,(fun k hk=>(bM.mp hk).elim (hO k) fun z=>by rw[bL.mp z];exact hok),(fun w hw=>(bM.mp hw).elim (hA w) fun z=>by rw[bL.mp z];exact ha),(by rw[aW,bV,lw]),(by rw[aW,bV,lu])⟩
  rw[aaF hTS,bC]
  exact aaA
 case done=>
  rintro σ H2 ⟨v5,v6,v7,v8,v9,v10,v11,v12,v13,ws,us,ks,rfl,s2p,h2,h3,hW,hO,hA,lw,lu⟩
  have hlen:=acX ws fun x hx=>(hW.cl x hx).2.2
  have hne:ws≠[]:=fun e=>by rw[e] at lw;simp at lw;omega
  have star:∀{H4:Hp},Same H2 H4->∀t,H4 t=none->Q (.ref t) (upd H4 t (.tup [.str (Tx [42]),.non])):=fun s4 t ht=>q t [42] .non none _ (s13.trans (s2p.trans (s4.trans (aaB ht _)))) aaA (agL true)
  refine⟨_,rfl,p,_,_,_,rfl,rfl,SqL.of (s2p _ _ hp),adE e0,rfl,_,rfl,ifI (fun _=>abB ⟨(zL 2),star (Same.refl _)⟩) (fun _=>⟨_,rfl,(zL 1),fun l1 hl1=>?_⟩)⟩
  have sl:=aaB hl1 (.lst [V.str (Tx [42])])
  refine⟨T,l1,ws,[[42]],rfl,rfl,SqL.of (sl _ _ h2),SqL.of aaA,hA,(fun w hw=>by rw[bL.mp hw];exact adV rfl),_,rfl,ifD (fun _=>⟨(zL 2),star sl⟩) (fun _=>?_)⟩
  refine⟨rfl,_,rfl,44,T,ws,rfl,rfl,SqL.of (sl _ _ h2),(by omega),_,rfl,(zL 2),fun t ht=>?_⟩
  obtain⟨ko,hko⟩:=aoV hW hne (by omega) hO
  exact q t _ (.ref S) ko _ (s13.trans (s2p.trans (sl.trans (aaB ht _)))) aaA hko
theorem aoY:Df P w K mg base "_law_spec" 4 ["_law_cells","_law_mixed"] (anK K):=by
 refine ZZ.dg.dfs sc__law_spec (fun vs H Q E h=>?_) (fun f cdv A outer s H vs Q E hr h=>?_)
 ·obtain⟨_,_,_,_,_,_,_,rfl,_⟩:=h
  rfl
 obtain⟨a,c0,c1,c2,c3,c4,bm,rfl,hC,q⟩:=h
 refine⟨_,(ssC (aaH 2 (eD (abZ ZZ) hr (aC (eIx xL (v_ 0) eI) (aC eI (aC eI (aC (v_ 1) aN))))) sc__law_spec.nd)
   (ssC (aaH 3 (eD (abZ ZZ) hr (aC (eIx xL (v_ 0) eI) (aC eI (aC eI (aC (v_ 1) aN))))) sc__law_spec.nd)
   (ssC (aaH 4 (eD (aoO ZZ) hr (aC (eIx xL (v_ 0) eI) (aC (v_ 1) aN))) sc__law_spec.nd)
   (ssC (aaH 5 (eD (abZ ZZ) hr (aC (eIx xL (v_ 0) eI) (aC eI (aC eI (aC (v_ 1) aN))))) sc__law_spec.nd)
   (ssC (aaH 6 (eD (ahB ZZ) hr (aC (eIx xL (v_ 0) eI) (aC (v_ 1) aN))) sc__law_spec.nd)
   (ssC (aaH 7 (eD (abH ZZ) hr (aC (eOp aaN (eOp afY (eIx xL (v_ 0) eI) eI) eI) (aC (abM (aC eI (aC eI (aC eI aN)))) (aC eB aN)))) sc__law_spec.nd)
   (ssK (sIf (tW (aqR (tVa (v_ 1)) (ajW (tCm oEq (eIx xL (v_ 7) eI) eI)))) (ssC (aaH 5 (aaX (aC (eSx [50]) (aC (abM (aC eI aN)) aN))) sc__law_spec.nd)
   (ssC (aaH 4 (aaX (aC (eSx [50,57]) (aC (abM (aC (aaX (aC (eSx [110,117,109]) (aC (abM (aC eI aN)) (aC eI aN)))) aN)) aN))) sc__law_spec.nd)
   (ssC (aaH 6 (aaX (aC (eSx [42]) (aC eN aN))) sc__law_spec.nd)
   (ss1 (sIf (tCm oEq (eIx xL (v_ 7) eI) eI) (ssC (aaH 4 (aaX (aC (eSx [42]) (aC eN aN))) sc__law_spec.nd)
   (ss1 (aaH 6 (aaX (aC (eOp acC (eCT acF ZZ.ad PyProof.Rows.boot_str (aC (eIx xL (v_ 7) eI) aN)) (eSx [35,53])) (aC (abM (aC (aaX (aC (eSx [110,116,104]) (aC (eOp abG (eIx xL (v_ 7) eI) eI) (aC eI aN)))) aN)) aN))) sc__law_spec.nd))) ssN))))) ssN)
   (ssC (aaH 8 (at9 (eSx [32]) (abM (aC (eIx xT (v_ 2) eI) (aC (eIx xT (v_ 3) eI) (aC (eIx xT (v_ 4) eI) (aC (eIx xT (v_ 5) eI) (aC (eIx xT (v_ 6) eI) aN))))))) sc__law_spec.nd)
   (ss1 (aaG (aaX (aC (v_ 8) (aC (eIx xT (v_ 2) eI) (aC (eIx xT (v_ 3) eI) (aC (eIx xT (v_ 4) eI) (aC (eIx xT (v_ 5) eI) (aC (eIx xT (v_ 6) eI) aN))))))))))))))))),?_⟩
 refine⟨_,rfl,a,_,_,_,rfl,rfl,hC,rfl,_,rfl,c0,0,59,bm,rfl,⟨by decide,by decide,by decide⟩,fun t0 N0 w0 ns0 H1 s1 h0 hN0 in0 ne0 ln0 f0=>?_⟩
 refine⟨_,rfl,a,_,_,_,rfl,rfl,s1.seq hC,rfl,_,rfl,c1,0,23,bm,rfl,⟨by decide,by decide,by decide⟩,fun t1 N1 w1 ns1 H2 s2 h1 hN1 in1 ne1 ln1 f1=>?_⟩
 have s12:=s1.trans s2
 refine⟨_,rfl,a,_,_,_,rfl,rfl,s12.seq hC,rfl,_,rfl,c2,bm,rfl,fun t2 w2 v2 kd H3 s3 h2 d2=>?_⟩
 have s13:=s12.trans s3
 refine⟨_,rfl,a,_,_,_,rfl,rfl,s13.seq hC,rfl,_,rfl,c3,1,12,bm,rfl,⟨by decide,by decide,by decide⟩,fun t3 N3 w3 ns3 H4 s4 h3 hN3 in3 ne3 ln3 f3=>?_⟩
 have s14:=s13.trans s4
 refine⟨_,rfl,a,_,_,_,rfl,rfl,s14.seq hC,rfl,_,rfl,c4,bm,rfl,fun t4 w4 v4 kw H5 s5 h4 d4=>?_⟩
 have s15:=s14.trans s5
 have e3:∀z∈([12,2,8]:List Int),0<z/\z<1073741824:=by decide
 refine⟨_,rfl,a,_,_,_,rfl,rfl,s15.seq hC,rfl,_,_,rfl,rfl,⟨by decide,by decide⟩,_,_,rfl,rfl,(zL 3),fun ls hls=>⟨_,ls,true,[12,2,8],rfl,SqL.of aaA,e3,(by decide),fun ds rr H6 s6 hrr hd=>?_⟩⟩
 obtain⟨r0,er0,_,_⟩:=acQ (i:=0) hd rfl
 obtain⟨r1,er1,_,_⟩:=acQ (i:=1) hd rfl
 obtain⟨r2,er2,k0,k1⟩:=acQ (i:=2) hd rfl
 have s56:=(aaB hls (.lst [V.int 12,V.int 2,V.int 8])).trans s6
 refine⟨(fun σ' H'=>∃(t2' t3' t4' N3':Addr) (w2' w3' w4':List Nat) (v2' v4':V) (m3:Int) (kd' kw':Option (List Mk)),σ'=[some (.ref a),some (.bl bm),some (.ref t0),some (.ref t1),some (.ref t2'),some (.ref t3'),some (.ref t4'),some (.ref rr),none]/\Same H6 H'/\H' t2'=some (.tup [.str (Tx w2'),v2'])/\DT false w2' kd'/\H' t3'=some (.tup [.str (Tx w3'),.ref N3'])/\FT 1 12 w3' m3/\H' t4'=some (.tup [.str (Tx w4'),v4'])/\DT true w4' kw'),?_,?_⟩
 ·have g2:=(s4.trans (s5.trans s56)) _ _ h2
  have g3:=(s5.trans s56) _ _ h3
  have g4:=s56 _ _ h4
  refine⟨_,rfl,_,rfl,?_⟩
  cases bm with
  |false=>exact aa5 (aa5 ⟨t2,t3,t4,N3,w2,w3,w4,v2,v4,_,kd,kw,rfl,Same.refl _,g2,d2,g3,f3,g4,d4⟩)
  |true=>
   refine abB ⟨_,rfl,rr,_,_,_,rfl,rfl,SqL.of (hrr),adE er0,rfl,_,rfl,ifI (fun _=>?_) (fun _=>⟨t2,t3,t4,N3,w2,w3,w4,v2,v4,_,kd,kw,rfl,Same.refl _,g2,d2,g3,f3,g4,d4⟩)⟩
   obtain⟨k29,d29⟩:=aE7
   refine⟨(zL 1),fun l1 n1=>⟨(zL 2),fun t3' n2=>?_⟩⟩
   refine⟨(zL 1),fun l2 n3=>⟨(zL 3),fun u2 n4=>⟨(zL 1),fun l3 n5=>⟨(zL 2),fun t2' n6=>?_⟩⟩⟩⟩
   refine⟨(zL 2),fun t4' n7=>?_⟩
   have b3:=(aaB n3 (.lst [V.int 29])).trans ((aaB n4 _).trans ((aaB n5 _).trans ((aaB n6 _).trans (aaB n7 (.tup [.str (Tx [42]),.non])))))
   have b7:=aaB n7 (.tup [.str (Tx [42]),.non])
   have b1:=(aaB n1 _).trans ((aaB n2 _).trans b3)
   have g3':=b3 _ _ aaA
   refine⟨_,rfl,rr,_,_,_,rfl,rfl,SqL.of (b1 _ _ hrr),adE er1,rfl,_,rfl,ifI (fun _=>?_) (fun _=>⟨t2',t3',t4',l1,[50,57],[50],[42],_,_,_,_,_,rfl,b1,b7 _ _ aaA,d29,g3',ax0,aaA,agL true⟩)⟩
   have sm:r2.toNat<10^500/\[V.int r2]=[V.int (r2.toNat:Nat)]:=⟨aZ (show r2.toNat<100 by omega) (by decide +kernel),by rw[bF k0]⟩
   have nl:=(aeG r2.toNat (by omega)).2.2.2
   obtain⟨k5,d5⟩:=azT k0 k1
   refine⟨(zL 2),fun t2'' n8=>?_⟩
   have b8:=aaB n8 (.tup [.str (Tx [42]),.non])
   refine⟨_,rfl,rr,_,_,_,rfl,rfl,SqL.of (b8 _ _ (b1 _ _ hrr)),adE er2,r2.toNat,sm.2,sm.1,_,_,rfl,rfl,(by rw[dO];show _+2<=_;omega),_,rfl,rr,_,_,_,rfl,rfl,SqL.of (b8 _ _ (b1 _ _ hrr)),adE er2,_,_,rfl,rfl,(by show (0:Int)<7;decide),(zL 3),fun u3 n9=>⟨(zL 1),fun l4 n10=>⟨(zL 2),fun t4'' n11=>?_⟩⟩⟩
   have b9:=(aaB n9 _).trans ((aaB n10 _).trans (aaB n11 (.tup [.str (Tx (num r2.toNat++[35,53])),.ref l4])))
   exact⟨t2'',t3',t4'',l1,[42],[50],_,_,_,_,_,_,rfl,b1.trans (b8.trans b9),b9 _ _ aaA,agL false,b9 _ _ (b8 _ _ g3'),ax0,aaA,d5⟩
 rintro σ' H7 ⟨t2',t3',t4',N3',w2',w3',w4',v2',v4',m3,kd',kw',rfl,s7,g2,d2',g3,f3',g4,d4'⟩
 have s57:=s56.trans s7
 have g0:=(s2.trans (s3.trans (s4.trans (s5.trans s57)))) _ _ h0
 have g1:=(s3.trans (s4.trans (s5.trans s57))) _ _ h1
 refine⟨rfl,_,rfl,t0,_,_,_,rfl,rfl,SqT.of (g0),rfl,_,rfl,t1,_,_,_,rfl,rfl,SqT.of (g1),rfl,_,rfl,t2',_,_,_,rfl,rfl,SqT.of (g2),rfl,_,rfl,t3',_,_,_,rfl,rfl,SqT.of (g3),rfl,_,rfl,t4',_,_,_,rfl,rfl,SqT.of (g4),rfl,(zL 5),fun L hL=>?_⟩
 have sL:=aaB hL (.lst [V.str (Tx w0),V.str (Tx w1),V.str (Tx w2'),V.str (Tx w3'),V.str (Tx w4')])
 refine⟨32,L,[w0,w1,w2',w3',w4'],rfl,rfl,SqL.of aaA,?len,?_⟩
 case len=>
  have:=f0.len
  have:=f1.len
  have:=f3'.len
  have:=d2'.2.1.len
  have:=d4'.2.1.len
  show (w0++32::(w1++32::(w2'++32::(w3'++32::w4')))).length<=1000000
  simp only[aW,bU]
  omega
 refine⟨_,rfl,_,rfl,t0,_,_,_,rfl,rfl,SqT.of (sL _ _ g0),rfl,_,rfl,t1,_,_,_,rfl,rfl,SqT.of (sL _ _ g1),rfl,_,rfl,t2',_,_,_,rfl,rfl,SqT.of (sL _ _ g2),rfl,_,rfl,t3',_,_,_,rfl,rfl,SqT.of (sL _ _ g3),rfl,_,rfl,t4',_,_,_,rfl,rfl,SqT.of (sL _ _ g4),rfl,(zL 6),fun t ht=>?_⟩
 have l60:=aj6 (n:=60) (fun z hz=>by have:=in0 z hz;omega)
 have l24:=aj6 (n:=24) (fun z hz=>by have:=in1 z hz;omega)
 exact q t w0 w1 w2' w3' w4' _ _ m3 _ _ _ _ _ kd' kw' _ (s15.trans (s57.trans (sL.trans (aaB ht _)))) aaA f0 f1 f3' d2' d4' ⟨l60,l24⟩
theorem alW:Df P w K mg base "_law_start" 1 ["_law_year"] (alP K):=by
 refine ZZ.cz.dfs alU (fun vs H Q E h=>?_) (fun f cdv A outer s H vs Q E hr h=>?_)
 ·obtain⟨_,rfl,_⟩:=h
  rfl
 obtain⟨y,rfl,q⟩:=h
 refine⟨_,(ss1 (aaG (eOp aaN (eOp abE (eOp aaN (eOp ab7 eI (v_ 0)) (eOp afY (eOp aaN (v_ 0) eI) eI)) (eOp afY (eOp aaN (v_ 0) eI) eI)) (eOp afY (eOp aaN (v_ 0) eI) eI)))),?_⟩
 exact⟨_,rfl,_,_,rfl,rfl,.inl ⟨by decide,by decide⟩,_,rfl,_,_,rfl,rfl,_,_,rfl,rfl,⟨by decide,by decide⟩,_,_,rfl,rfl,_,rfl,_,_,rfl,rfl,_,_,rfl,rfl,⟨by decide,by decide⟩,_,_,rfl,rfl,_,rfl,_,_,rfl,rfl,_,_,rfl,rfl,⟨by decide,by decide⟩,_,_,rfl,rfl,q _⟩
theorem akP:Df P w K mg base "_law_moment" 3 ["_law_cell","_law_mixed"] (akM K):=by
 refine ZZ.cn.dfs sc__law_moment (fun vs H Q E h=>?_) (fun f cdv A outer s H vs Q E hr h=>?_)
 ·obtain⟨_,_,rfl,_⟩:=h
  rfl
 obtain⟨c,bm,rfl,q⟩:=h
 refine⟨_,(ssC (aaH 2 (eD (abH ZZ) hr (aC (v_ 0) (aC (abM (aw6 [2401,4,366,3,3,1440,8])) (aC eB aN)))) sc__law_moment.nd)
   (ssC (sIf (tW (wOr (tW (aqR (tNo (tVa (v_ 1))) (ajW (tCm oGe (eCB aK4 ZZ.dq PyProof.Rows.boot_abs (aC (v_ 0) aN)) (eOp av7 eI eI))))) (af4 (tCm oEq (eIx xL (v_ 2) eI) eI)))) (ss1 (aaG (eOp abE (eOp abG (v_ 0) (eOp aaN (eOp ab7 eI (eOp av7 eI eI)) eI)) (eOp av7 eI eI)))) ssN)
   (ssC (aaH 3 (eOp abE (eIx xL (v_ 2) eI) eI) sc__law_moment.nd)
   (ssC (aaH 4 (eOp abE (eOp aaN (eD (alW ZZ) hr (aC (v_ 3) aN)) (eIx xL (abM (aC eI (aC eI (aC eI (aC (eIx xL (v_ 2) eI) aN))))) (eIx xL (v_ 2) eI))) (eIx xL (v_ 2) eI)) sc__law_moment.nd)
   (ss1 (aaG (eOp aaN (eOp ab7 eI (v_ 4)) (eIx xL (abM (aC eI (aC eI (aC (eIx xL (v_ 2) eI) aN)))) (eIx xL (v_ 2) eI))))))))),?_⟩
 have e7:∀z∈([2401,4,366,3,3,1440,8]:List Int),0<z/\z<1073741824:=by decide
 refine⟨_,rfl,(zL 7),fun ls hls=>⟨c,ls,true,[2401,4,366,3,3,1440,8],rfl,SqL.of aaA,e7,(by decide),fun ds p H1 s0 hp hd=>?_⟩⟩
 have s1:=(aaB hls (.lst [V.int 2401,V.int 4,V.int 366,V.int 3,V.int 3,V.int 1440,V.int 8])).trans s0
 obtain⟨d0,d1,d2,d3,d4,d5,d6,rfl,k1,k4⟩:∃d0 d1 d2 d3 d4 d5 d6:Int,ds=[d0,d1,d2,d3,d4,d5,d6]/\(0<=d1/\d1<4)/\0<=d4/\d4<3:=by cases hd with | cons g0 r=>cases r with | cons g1 r=>cases r with | cons g2 r=>cases r with | cons g3 r=>cases r with | cons g4 r=>cases r with | cons g5 r=>cases r with | cons g6 r=>cases r;exact⟨_,_,_,_,_,_,_,rfl,g1,g4⟩
 obtain⟨ee,hee⟩:=auD (zs:=[0,59,365,d2]) (i:=d1) k1.1 k1.2
 obtain⟨tt,htt⟩:=auD (zs:=[0,1439,d5]) (i:=d4) k4.1 k4.2
 refine⟨_,rfl,_,rfl,?_⟩
 cases bm with
 |true=>
  refine aa5 (aa5 ⟨_,rfl,p,_,_,_,rfl,rfl,SqL.of (hp),rfl,rfl,_,rfl,ifI (fun _=>?a) (fun _=>?b)⟩)
  case a=>exact⟨_,rfl,_,_,rfl,rfl,⟨by decide,by decide,by decide⟩,_,_,rfl,rfl,.inl ⟨by decide,by decide⟩,_,_,rfl,rfl,_,_,rfl,rfl,(by rw[axZ];show (0:Int)<_;decide),_,_,rfl,rfl,⟨by decide,by decide,by decide⟩,_,_,rfl,rfl,q _ _ s1⟩
  case b=>exact⟨_,rfl,p,_,_,_,rfl,rfl,SqL.of (hp),rfl,_,_,rfl,rfl,_,rfl,_,rfl,fun z=>⟨_,rfl,p,_,_,_,rfl,rfl,SqL.of (hp),rfl,(zL 4),fun l1 h1=>⟨_,rfl,p,_,_,_,rfl,rfl,SqL.of ((aaB h1 _) _ _ hp),rfl,l1,_,_,_,rfl,rfl,SqL.of aaA,hee,_,_,rfl,rfl,_,rfl,p,_,_,_,rfl,rfl,SqL.of ((aaB h1 _) _ _ hp),rfl,_,_,rfl,rfl,_,rfl,_,_,rfl,rfl,.inl ⟨by decide,by decide⟩,_,rfl,p,_,_,_,rfl,rfl,SqL.of ((aaB h1 _) _ _ hp),rfl,(zL 3),fun l2 h2=>⟨_,rfl,p,_,_,_,rfl,rfl,SqL.of ((aaB h2 _) _ _ ((aaB h1 _) _ _ hp)),rfl,l2,_,_,_,rfl,rfl,SqL.of aaA,htt,_,_,rfl,rfl,q _ _ (s1.trans ((aaB h1 _).trans (aaB h2 _)))⟩⟩⟩⟩
 |false=>
  refine abB ⟨_,rfl,_,rfl,_,_,rfl,rfl,⟨by decide,by decide,by decide⟩,_,_,rfl,rfl,_,rfl,ifD (fun _=>abB ?a0) (fun _=>⟨_,rfl,p,_,_,_,rfl,rfl,SqL.of (hp),rfl,rfl,_,rfl,ifI (fun _=>?a) (fun _=>?b)⟩)⟩
  case a0=>exact⟨_,rfl,_,_,rfl,rfl,⟨by decide,by decide,by decide⟩,_,_,rfl,rfl,.inl ⟨by decide,by decide⟩,_,_,rfl,rfl,_,_,rfl,rfl,(by rw[axZ];show (0:Int)<_;decide),_,_,rfl,rfl,⟨by decide,by decide,by decide⟩,_,_,rfl,rfl,q _ _ s1⟩
  case a=>exact⟨_,rfl,_,_,rfl,rfl,⟨by decide,by decide,by decide⟩,_,_,rfl,rfl,.inl ⟨by decide,by decide⟩,_,_,rfl,rfl,_,_,rfl,rfl,(by rw[axZ];show (0:Int)<_;decide),_,_,rfl,rfl,⟨by decide,by decide,by decide⟩,_,_,rfl,rfl,q _ _ s1⟩
  case b=>exact⟨_,rfl,p,_,_,_,rfl,rfl,SqL.of (hp),rfl,_,_,rfl,rfl,_,rfl,_,rfl,fun z=>⟨_,rfl,p,_,_,_,rfl,rfl,SqL.of (hp),rfl,(zL 4),fun l1 h1=>⟨_,rfl,p,_,_,_,rfl,rfl,SqL.of ((aaB h1 _) _ _ hp),rfl,l1,_,_,_,rfl,rfl,SqL.of aaA,hee,_,_,rfl,rfl,_,rfl,p,_,_,_,rfl,rfl,SqL.of ((aaB h1 _) _ _ hp),rfl,_,_,rfl,rfl,_,rfl,_,_,rfl,rfl,.inl ⟨by decide,by decide⟩,_,rfl,p,_,_,_,rfl,rfl,SqL.of ((aaB h1 _) _ _ hp),rfl,(zL 3),fun l2 h2=>⟨_,rfl,p,_,_,_,rfl,rfl,SqL.of ((aaB h2 _) _ _ ((aaB h1 _) _ _ hp)),rfl,l2,_,_,_,rfl,rfl,SqL.of aaA,htt,_,_,rfl,rfl,q _ _ (s1.trans ((aaB h1 _).trans (aaB h2 _)))⟩⟩⟩⟩
theorem adT:Df P w K mg base "_law_between" 9 ["_law_row","_law_told","_law_cell"] (ajC K aB aE aF aH aD aA aG aI aJ):=by
 refine ZZ.cb.dfs sc__law_between (fun vs H Q E h=>?_) (fun f cdv A outer s H vs Q E hr h=>?_)
 ·obtain⟨_,_,_,_,_,_,_,_,_,_,_,_,_,_,rfl,_⟩:=h
  rfl
 obtain⟨p,t,l,e,c,lo,hi,m0,m1,m3,kd,kw,us,sts,rfl,hR,ht,hl,hsz,hP,hpc,he,q⟩:=h
 refine⟨_,(ssC (aj4 (v_ 1) (gTu (gsC (gN 3 sc__law_between.nd) (gsC (gN 4 sc__law_between.nd) gsN))))
   (ssC (sIf (tW (wOr (tCm aBJ (eMe ZZ.aa.cl (agD ZZ) hr (v_ 0) (aC (v_ 3) aN)) eB) (af4 (tCm awI (eMe ZZ.aa.cl (abS ZZ) hr (v_ 0) (aC (v_ 3) aN)) eN)))) (ss1 (aaG eN)) ssN)
   (ssC (sIf (tCm (oEqE hr.units) (v_ 4) (abM aN)) (ss1 (aaG (v_ 3))) ssN)
   (ssC (aj4 (eIx xL (v_ 4) (eOp abG (v_ 2) (eCB ao0 ZZ.ag PySem.boot_len (aC (v_ 4) aN)))) (gTu (gsC (gN 5 sc__law_between.nd) (gsC (gN 6 sc__law_between.nd) (gsC (gN 7 sc__law_between.nd) gsN)))))
   (ssC (aaH 8 (eOp aaN (v_ 5) (eOp abG (eOp afY (v_ 2) eI) (eOp aaN (eOp abE (v_ 6) (v_ 5)) eI))) sc__law_between.nd)
   (ssC (sIf (tW (wOr (tCm aBJ (eMe ZZ.aa.cl (agD ZZ) hr (v_ 0) (aC (v_ 8) aN)) eB) (af4 (tCm oNe (eMe ZZ.aa.cl (abS ZZ) hr (v_ 0) (aC (v_ 8) aN)) (v_ 7))))) (ss1 (aaG eN)) ssN)
   (ss1 (aaG (v_ 8))))))))),?_⟩
 have hg:=hR.ok
 obtain⟨dx,dv,wv,hp,hn,hb,hd,hw⟩:=hR
 have hnon:=aJY hn hb hg he
 refine⟨_,rfl,t,_,rfl,SqT.of ht,rfl,_,_,rfl,_,_,rfl,rfl,?_⟩
 have SS1:Same H H:=Same.refl _
 refine⟨_,rfl,p,dx,_,rfl,hp,afO ..,_,rfl,p,dx,m0,m1,m3,tmF m1 m0,e,dv,wv,kd,kw,rfl,hp,hn,hd.keep SS1,hw.keep SS1,fun y1 m1' k1 H1 ok1 ed1 s1=>?_⟩
 rw[hnon y1 m1' k1 ok1 ed1,dR rfl]
 refine⟨_,_,rfl,rfl,_,rfl,ifF rfl ?_⟩
 have SS2:Same H H1:=s1
 refine⟨_,rfl,p,dx,_,rfl,SS2 _ _ hp,abP ..,_,rfl,p,dx,m0,m1,m3,tmF m1 m0,e,dv,wv,kd,kw,rfl,SS2 _ _ hp,hn,hd.keep SS2,hw.keep SS2,fun y2 m2' k2 H2 ok2 ed2 s2=>?_⟩
 rw[hnon y2 m2' k2 ok2 ed2]
 refine⟨rfl,_,rfl,ifF (by rw[dR rfl];rfl) ?_⟩
 have s12:=s1.trans s2
 refine⟨_,rfl,(zL 0),fun a' ha'=>⟨l,a',us,rfl,rfl,SqL.of ((aaB ha' _) _ _ (s12 _ _ hl)),SqL.of aaA,_,rfl,ifD (fun _=>⟨_,rfl,q e _ (s12.trans (aaB ha' _)) (.inl rfl)⟩) (fun c0=>?_)⟩⟩
 have s3:=s12.trans (aaB ha' (.lst []))
 have hlen:0<us.length:=by
  rcases us with _ | ⟨u,us⟩
  ·exact absurd rfl c0
  ·exact Nat.succ_pos _
 have i0:=bR c (show ((us.length:Nat):Int)≠0 by omega)
 have i1:=bZ c (show (0:Int)<((us.length:Nat):Int) by omega)
 obtain⟨i,ei⟩:∃i:Nat,(i:Int)=c%((us.length:Nat):Int):=⟨(c%((us.length:Nat):Int)).toNat,bF i0⟩
 have hi':i<us.length:=by omega
 obtain⟨u,hu⟩:∃u,us[i]? =some u:=⟨_,cJ hi'⟩
 obtain⟨z,hz,tt,rfl,htt⟩:=amZ hP hu
 have hok:=hpc z (bP hz)
 refine⟨_,rfl,_,rfl,_,rfl,l,_,rfl,.inl (SqL.of (s3 _ _ hl)),_,_,rfl,rfl,(by show (0:Int)<((us.length:Nat):Int);omega),l,_,_,_,rfl,rfl,SqL.of (s3 _ _ hl),(by rw[←ei];exact ae2 hu),?_⟩
 refine⟨tt,_,rfl,SqT.of (s3 _ _ htt),rfl,_,_,rfl,_,_,rfl,_,_,rfl,rfl,?_⟩
 have w0:=hok.2.1
 have p1:0<z.2.1-z.1+1:=by omega
 have j0:=bR (c / 100) (show z.2.1-z.1+1≠0 by omega)
 have j1:=bZ (c / 100) p1
 refine⟨_,rfl,_,rfl,_,_,rfl,rfl,⟨by decide,by decide⟩,_,rfl,_,rfl,_,_,rfl,rfl,_,_,rfl,rfl,_,_,rfl,rfl,p1,_,_,rfl,rfl,?_⟩
 obtain⟨hh,ehh⟩:∃hh,hh=z.1+c / 100%(z.2.1-z.1+1):=⟨_,rfl⟩
 show abV _ (V.int (z.1+c / 100%(z.2.1-z.1+1))) _ _ _
 rw[←ehh]
 have hw1:=hok.2.2.2 hh (by omega) (by omega)
 have SS3:Same H _:=s3
 refine⟨_,rfl,p,dx,_,rfl,SS3 _ _ hp,afO ..,_,rfl,p,dx,m0,m1,m3,tmF m1 m0,hh,dv,wv,kd,kw,rfl,SS3 _ _ hp,hn,hd.keep SS3,hw.keep SS3,fun y3 m3' k3 H3 ok3 ed3 s3'=>?_⟩
 rw[hw1 y3 m3' k3 ok3 ed3,dW (by intro q;cases q)]
 refine⟨_,_,rfl,rfl,_,rfl,ifF rfl ?_⟩
 have SS4:=s3.trans s3'
 refine⟨_,rfl,p,dx,_,rfl,SS4 _ _ hp,abP ..,_,rfl,p,dx,m0,m1,m3,tmF m1 m0,hh,dv,wv,kd,kw,rfl,SS4 _ _ hp,hn,hd.keep SS4,hw.keep SS4,fun y4 m4' k4 H4 ok4 ed4 s4=>?_⟩
 rw[hw1 y4 m4' k4 ok4 ed4]
 refine⟨_,rfl,rfl,_,rfl,ifF (by rw[dR rfl];rfl) ?_⟩
 exact⟨_,rfl,q hh _ (SS4.trans s4) (.inr ⟨by have:=hok.1;omega,by have:=hok.2.2.1;omega⟩)⟩
theorem alY:Df P w K mg base "_law_right" 12 ["_law_row","_law_moment_here","_law_one","_law_other"] (alI K aB aE aF aH aD aA aG aI aJ aK aL aM):=by
 refine ZZ.c0.dfs sc__law_right (fun vs H Q E h=>?_) (fun f cdv A outer s H vs Q E hr h=>?_)
 ·obtain⟨_,_,_,_,_,_,_,_,_,rfl,_⟩:=h
  rfl
 obtain⟨p,mo,x6,x7,m0,m1,m3,kd,kw,rfl,hR,hT,q⟩:=h
 refine⟨_,(ssC (aaH 4 (eD (agO ZZ) hr (aC (v_ 0) (aC (v_ 1) aN))) sc__law_right.nd)
   (ssC (sIf (tCm adF (eIx xT (v_ 4) eI) eN) (ss1 (aaG (agR adF (eIx xT (eD (af6 ZZ) hr (aC (v_ 0) (aC (v_ 1) aN))) eI) eN))) ssN)
   (ssC (aaH 5 (eD (adT ZZ) hr (aC (v_ 0) (aC (v_ 4) (aC (v_ 2) aN)))) sc__law_right.nd)
   (ssC (sIf (tW (wOr (tCm adF (v_ 5) eN) (wOr (tNo (tCh oLe oLe (v_ 1) (v_ 5) (eIx xT (v_ 4) eI))) (af4 (tCm oNe (eIx xT (eD (agO ZZ) hr (aC (v_ 0) (aC (v_ 5) aN))) eI) (eIx xT (v_ 4) eI)))))) (ss1 (aaG eB)) ssN)
   (ssC (aaH 4 (eD (af6 ZZ) hr (aC (v_ 0) (aC (v_ 1) aN))) sc__law_right.nd)
   (ssC (aaH 5 (eD (adT ZZ) hr (aC (v_ 0) (aC (v_ 4) (aC (v_ 3) aN)))) sc__law_right.nd)
   (ss1 (aaG (asX (agR awI (v_ 5) eN) (asX (eCh oLe oLe (eIx xT (v_ 4) eI) (v_ 5) (v_ 1)) (anS (agR oEq (eIx xT (eD (af6 ZZ) hr (aC (v_ 0) (aC (v_ 5) aN))) eI) (eIx xT (v_ 4) eI))))))))))))),?_⟩
 refine⟨_,rfl,_,rfl,p,mo,m0,m1,m3,kd,kw,rfl,hR,hT,fun t1 l1 us1 H1 v1 s1 T1 fr1 h1 hl1 c1=>?_⟩
 have hR1:=RowR.keepN s1 hR
 rcases c1 with ⟨e,rfl,he,⟨a1,a2⟩,_,sz1,sts1,hP1,hpc1⟩ | ⟨rfl,hno⟩
 rotate_left
 ·refine⟨_,rfl,t1,_,_,_,rfl,rfl,SqT.of h1,rfl,rfl,_,rfl,ifD (fun _=>?_) (fun c=>absurd rfl c)⟩
  refine⟨_,rfl,_,rfl,p,mo,m0,m1,m3,kd,kw,rfl,hR1,T1,fun t2 l2 us2 H2 v2 s2 T2 fr2 h2 hl2 c2=>?_⟩
  rcases c2 with ⟨e',_,he',_⟩ | ⟨rfl,_⟩
  ·exact absurd he' (hno e')
  ·refine⟨t2,_,_,_,rfl,rfl,SqT.of h2,rfl,rfl,?_⟩
   show Q (.bl (decide (V.non=V.non))) H2
   rw[dR rfl]
   exact q H2 (s1.trans s2) T2
 refine⟨_,rfl,t1,_,_,_,rfl,rfl,SqT.of h1,rfl,rfl,_,rfl,ifD (fun c=>by cases c) (fun _=>?_)⟩
 refine⟨_,rfl,_,rfl,_,rfl,p,t1,l1,e,x6,mo,e-1,m0,m1,m3,kd,kw,us1,sts1,rfl,hR1,h1,hl1,sz1,hP1,hpc1,he,fun r H2 s2 hr2=>?_⟩
 have hr3:mo<=r/\r<=e:=by omega
 refine⟨_,rfl,rfl,_,rfl,ifD (fun c=>by cases c) (fun _=>?_)⟩
 refine⟨_,rfl,_,rfl,_,_,rfl,rfl,_,rfl,ifD (fun _=>?_) (fun c=>absurd hr3.1 c)⟩
 refine⟨_,rfl,t1,_,_,_,rfl,rfl,SqT.of (s2 _ _ h1),rfl,_,_,rfl,rfl,_,rfl,?_⟩
 rw[dR hr3.2]
 refine ifF rfl ?_
 have s12:=s1.trans (abU s2)
 refine⟨_,rfl,_,rfl,p,r,m0,m1,m3,kd,kw,rfl,RowR.keepN s12 hR,ac5 s2 T1,fun t3 l3 us3 H3 v3 s3 T3 fr3 h3 hl3 c3=>?_⟩
 have e3:v3=.int e:=by
  rcases c3 with ⟨z,rfl,hz,⟨b1,b2⟩,_⟩ | ⟨_,hno⟩
  ·rcases dG z e with w' | w' | w'
   ·exact absurd hz (a2 z (by omega) w')
   ·rw[w']
   ·exact absurd he (b2 e hr3.2 w')
  ·exact absurd he (hno e)
 subst e3
 have s13:=s12.trans s3
 refine⟨t3,_,_,_,rfl,rfl,SqT.of h3,rfl,_,rfl,t1,_,_,_,rfl,rfl,SqT.of (s3 _ _ (fun _ z=>by cases z) (s2 _ _ h1)),rfl,rfl,_,rfl,ifF (by rw[dR rfl];rfl) ?_⟩
 refine⟨_,rfl,_,rfl,p,mo,m0,m1,m3,kd,kw,rfl,RowR.keepN s13 hR,T3,fun t4 l4 us4 H4 v4 s4 T4 fr4 h4 hl4 c4=>?_⟩
 have s14:=s13.trans s4
 rcases c4 with ⟨f,rfl,hf,⟨d1,d2⟩,_,sz4,sts4,hP4,hpc4⟩ | ⟨_,hno⟩
 rotate_left
 ·exact absurd he (hno e)
 refine⟨_,rfl,_,rfl,_,rfl,p,t4,l4,f,x7,f+1,mo,m0,m1,m3,kd,kw,us4,sts4,rfl,RowR.keepN s14 hR,h4,hl4,sz4,hP4,hpc4,hf,fun r5 H5 s5 hr5=>?_⟩
 have hr6:f<=r5/\r5<=mo:=by omega
 refine⟨_,rfl,rfl,_,rfl,ifD' (fun c=>by cases c) ?_⟩
 refine⟨_,rfl,t4,_,_,_,rfl,rfl,SqT.of (s5 _ _ h4),rfl,_,rfl,_,_,rfl,rfl,_,rfl,ifD (fun _=>?_) (fun c=>absurd hr6.1 c)⟩
 refine⟨_,rfl,_,_,rfl,rfl,_,rfl,ifD (fun _=>?_) (fun c=>absurd hr6.2 c)⟩
 have s15:=s14.trans (abU s5)
 refine⟨_,rfl,_,rfl,p,r5,m0,m1,m3,kd,kw,rfl,RowR.keepN s15 hR,ac5 s5 T4,fun t6 l6 us6 H6 v6 s6 T6 fr6 h6 hl6 c6=>?_⟩
 have e6:v6=.int f:=by
  rcases c6 with ⟨z,rfl,hz,⟨b1,b2⟩,_⟩ | ⟨_,hno⟩
  ·rcases dG z f with w' | w' | w'
   ·exact absurd hf (b2 f w' hr6.1)
   ·rw[w']
   ·exact absurd hz (d2 z w' (by omega))
  ·exact absurd he (hno e)
 subst e6
 refine⟨t6,_,_,_,rfl,rfl,SqT.of h6,rfl,_,rfl,t4,_,_,_,rfl,rfl,SqT.of (s6 _ _ (fun _ z=>by cases z) (s5 _ _ h4)),rfl,rfl,?_⟩
 have qq:=q H6 (s15.trans s6) T6
 rw[←dR (rfl:V.int f=V.int f)] at qq
 exact qq
theorem aB8{fL:Addr}{fdL:FuncData}(F:Fun K "law" "law" amE fL fdL):FnOk P w K mg base CX0 13 fL fdL ["_law_script"] (aoJ K aK aL aM):=by
 refine F.oks sc_law (fun vs H Q E h=>?_) (fun cdv A outer s H vs Q E hr h=>?_)
 ·obtain⟨_,_,rfl,_⟩:=h
  rfl
 obtain⟨a,ns,rfl,hS,hlen,hT,q⟩:=h
 refine⟨_,(ssC (aaH 1 (agR oEq (eOp abG (eD (ad0 ZZ) hr (aC (v_ 0) (aC eI aN))) eI) eI) sc_law.nd)
   (ssC (afW (iR1 ZZ.ab (aC eI aN)) (gN 2 sc_law.nd) (ssC (aBX 3 ["_law_script","_law_k"] [0,2] (iR1 ZZ.ab (aC eI aN)) (fun _ _ _ _ _ _=>fsN) (fun _ _ _ _ _ _=>(eD (ad0 ZZ) hr (aC (v_ 1) (aC (eOp aaN (eOp aaN eI (eOp ab7 eI (v_ 2))) (v_ 0)) aN)))) sc_law.nd)
   (ssC (aaH 4 (eD (aoY ZZ) hr (aC (eSl slL (v_ 3) poN (poS eI)) (aC (v_ 1) aN))) sc_law.nd)
   (ssC (aaH 5 (eD (akP ZZ) hr (aC (eIx xL (v_ 3) eI) (aC (v_ 1) aN))) sc_law.nd)
   (ss1 (sIf (tNo (tVa (eD (alY ZZ) hr (aC (eD (aqK ZZ) hr (aC (eIx xT (v_ 4) eI) aN)) (aC (v_ 5) (aC (eIx xL (v_ 3) eI) (aC (eIx xL (v_ 3) eI) aN))))))) (ss1 (aaG eB)) ssN))))) PassesOwn.never)
   (ss1 (aaG eB)))),?_⟩
 refine⟨_,rfl,a,_,rfl,⟨ns,hS⟩,⟨by decide,by decide⟩,fun c0=>⟨_,_,rfl,rfl,(by show (0:Int)<2;decide),rfl,?_⟩⟩
 obtain⟨bm,ebm⟩:∃bm,bm=decide (V.int (c0%2)=V.int 1):=⟨_,rfl⟩
 show abV 1 (V.bl (decide (V.int (c0%2)=V.int 1))) _ _ _
 rw[←ebm]
 refine⟨_,rfl,by decide,by decide,abW (fun i σ H2=>∃v2 v3 v4 v5:Option V,σ=[some (.ref a),some (.bl bm),v2,v3,v4,v5]/\SameN H H2/\aiS H2 aK aL aM) ⟨_,_,_,_,rfl,abU (Same.refl _),hT⟩ ?turn ?done⟩
 case done=>
  rintro σ H2 ⟨v2,v3,v4,v5,rfl,_⟩
  exact q H2
 case turn=>
  rintro i σ H2 hi ⟨v2,v3,v4,v5,rfl,sN,hT2⟩
  have hi2:i<2:=hi
  refine⟨_,rfl,by decide,by decide,adL (fun i z=>∃cs:List Int,cs.length=i/\z=cs.map V.int) (zL 8) ⟨[],rfl,rfl⟩ ?st ?dn⟩
  case st=>
   rintro j z D H3 E' F' hj ⟨cs,hl,rfl⟩ hD s3 hz hE hF
   have hj':j<8:=hj
   exact⟨_,rfl,_,rfl,_,_,rfl,rfl,.inl ⟨by decide,by decide⟩,_,_,rfl,rfl,_,rfl,_,_,rfl,rfl,a,_,rfl,⟨ns,s3.seq (av6 sN hS)⟩,⟨by omega,by omega⟩,fun c=>hE _ _ (Same.refl _) ⟨cs++[c],by rw[aW,hl];rfl,by rw[bC];rfl⟩⟩
  case dn=>
   rintro C H3 z ⟨cs,hl,rfl⟩ hD s3 hz
   obtain⟨x0,x1,x2,x3,x4,x5,x6,x7,rfl⟩:∃x0 x1 x2 x3 x4 x5 x6 x7:Int,cs=[x0,x1,x2,x3,x4,x5,x6,x7]:=by
    match cs,hl with
    |[x0,x1,x2,x3,x4,x5,x6,x7],_=>exact⟨_,_,_,_,_,_,_,_,rfl⟩
   refine⟨_,rfl,_,rfl,C,_,rfl,SqL.of hz,fun pc hpc=>?_⟩
   have s4:=aaB hpc (.lst [V.int x0,V.int x1,V.int x2,V.int x3,V.int x4])
   refine⟨_,rfl,pc,x0,x1,x2,x3,x4,bm,rfl,SqL.of aaA,fun t w0 w1 w2 w3 w4 m0 m1 m3 y1 y2 y3 y4 y5 kd kw H5 s5 ht f0 f1 f3 d2 d4 hb=>?_⟩
   have s35:=s4.trans s5
   refine⟨_,rfl,C,_,_,_,rfl,rfl,SqL.of (s35 _ _ hz),rfl,_,rfl,x5,bm,rfl,fun mo H6 s6=>?_⟩
   refine⟨_,rfl,t,_,_,_,rfl,rfl,SqT.of (s6 _ _ ht),rfl,w0,w1,w2,w3,w4,m0,m1,m3,kd,kw,rfl,f0,f1,f3,d2,d4,hb,fun x dx dv wv tm H7 htm s7 hx hdv hwv=>?_⟩
   subst htm
   have s67:=s35.trans (s6.trans s7)
   have s27:Same H2 H7:=s3.trans s67
   have hR:RowR (⟨aB,aE,aF,aH,aD,aA,aG,aI⟩:Cs) aJ H7 x m0 m1 m3 (gO false kd) (gO true kw):=⟨dx,dv,wv,hx,⟨f0.nn,f1.nn,f3.nn⟩,⟨hb.2,hb.1⟩,hdv,hwv⟩
   refine⟨_,rfl,_,rfl,C,_,_,_,rfl,rfl,SqL.of (s67 _ _ hz),rfl,_,rfl,C,_,_,_,rfl,rfl,SqL.of (s67 _ _ hz),rfl,x,mo,x6,x7,m0,m1,m3,gO false kd,gO true kw,rfl,hR,ac5 s27 hT2,fun H10 s10 T10=>⟨_,rfl,ifF rfl ⟨_,_,_,_,rfl,(sN.trans (abU s27)).trans s10,T10⟩⟩⟩
end
theorem all_mk{l:PySem.W.OpenLaw}{w:World}{K:FG}{h:Heap}{mg:Str->Option Value}{fa f:Addr}{aI aB aE aF aH aD aA aG aJ aP aO aQ aK aR aL aM a_MONTH_LASTS a_BOUNDS a_BOUNDS_0 a_BOUNDS_1 a_BOUNDS_3:Addr}{t_ROUND_DAYS t_ROUND_YEARS t_LONG_PLACE t_DAY_MINUTES t_HOUR_MINUTES t_FIGURES t_MOST_STRIDE t_MOST_SIGNS t_MOST_ITEMS t_SATURDAY t_SUNDAY t_MOST_BACK t_MOST_DAY t_SUNDAY_TOO t_MOST_NTH t_MOST_MARKS t_ALL_WEEKDAYS t_LONG_LAST t_SHORT_YEAR t_MINUTE t_HOUR t_DAY t_MONTH t_WEEKDAY t_MOST_ROW_SIGNS t_NO_PLACE t_MOST_MONTHS t_MOST_MONTH_MINUTES:Tok}{oc kV dc pm cd ct:Value}{od an:Option Addr}{sl:Array (Option Value)}(X:K.In h)(G:h.Ns mainGlobals mg)(hfa:mg "law"=some (.ref fa))(ZZ:Fs K mg aI aB aE aF aH aD aA aG aJ aP aO aQ aK aR aL aM a_MONTH_LASTS a_BOUNDS a_BOUNDS_0 a_BOUNDS_1 a_BOUNDS_3 t_ROUND_DAYS t_ROUND_YEARS t_LONG_PLACE t_DAY_MINUTES t_HOUR_MINUTES t_FIGURES t_MOST_STRIDE t_MOST_SIGNS t_MOST_ITEMS t_SATURDAY t_SUNDAY t_MOST_BACK t_MOST_DAY t_SUNDAY_TOO t_MOST_NTH t_MOST_MARKS t_ALL_WEEKDAYS t_LONG_LAST t_SHORT_YEAR t_MINUTE t_HOUR t_DAY t_MONTH t_WEEKDAY t_MOST_ROW_SIGNS t_NO_PLACE t_MOST_MONTHS t_MOST_MONTH_MINUTES)
  (a:PySem.W.nsIn K mainGlobals "law"=some (some (.ref f))) (lk:K.lookup f=some ⟨oc,od,.func (PySem.W.fnOf "law" "law" (aa0 amE) (aaS amE) (aaC amE) .none kV dc pm an cd ct),sl⟩) (c:PySem.W.codeIn K cd "law"=true) (k:PySem.W.keepIn K (.ref f)=true):
  ∃fd:FuncData,(∀(s:Shared) (v:Value),BindsTo s fd ⟨[v],[]⟩ [("_law_script",v)])/\∀base:Heap,K.In base->base.Ns mainGlobals mg->FnOk l.prog w K mg base CX0 13 fa fd ["_law_script"] (aoJ K aK aL aM):=by
 cases hfa.symm.trans (PySem.W.mg_of X G a)
 exact⟨_,fun s v=>.of_eq rfl,fun base _ _=>aB8 ZZ (anI (st:=amE) lk c k)⟩
theorem walk{l:PySem.W.OpenLaw}{q:Program}{loose:List Str}{XP:(Str->Option Value)->Heap->Prop}{YP:World->Heap->Prop}{d:DefRec}{K:Params->FG}{tN tL bm:Addr}(ne:tN≠tL)(hn:l.most=some 63)(hdf:d.params.defaults=[])
  (hY:∀(w:World) (h:Heap),YP w h->(K w.params).In h)
  (hTb:∀(w:World) (h:Heap) (mean:ExcName->Option Value) (mg mb:Str->Option Value),(K w.params).In h->Top q (PySem.W.looseW q loose) mean mg mb h->∀b∈[tN,tL],(isCodeTable h b/\h.get? b=some (PySem.W.tabObj #[]))/\(K w.params).lookup b=none)
  (hBm:∀(w:World) (h:Heap) (mg:Str->Option Value),(K w.params).In h->h.Ns mainGlobals mg->mg "__builtins__"=some (.ref bm)/\(K w.params).lookup bm=none)
  (F:∀(w:World) (mg:Str->Option Value) (fa:Addr) (h:Heap),(K w.params).In h->h.Ns mainGlobals mg->mg d.name=some (.ref fa)->
   ∃fd:FuncData,(∀(s:Shared) (u:Value),BindsTo s fd ⟨[u],[]⟩ [("_law_script",u)])/\∀base:Heap,(K w.params).In base->base.Ns mainGlobals mg->FnOk l.prog w (K w.params) mg base CX0 13 fa fd ["_law_script"] (aoJ (K w.params) tN tL bm)):
  PySem.W.WalkO q loose XP YP l.row.toRowW d [] (fun f vs=>PySem.call f vs):=
 L2.walk_ofT (n:=63) (k:=13) (x:="_law_script") (tabs:=fun _=>[tN,tL]) (sp:=fun w=>aoJ (K w.params) tN tL bm) hn (by decide) hdf ⟨rfl,by decide,by decide⟩ hY hTb hBm F fun _ _ a ns hl hO hS=>⟨a,ns,rfl,hS,hl,⟨.inl (hO.1 _ bX),.inl (hO.1 _ (bY _ bX)),ne,hO.2.2⟩,fun _=>rfl⟩
end K58
open PySem PySem.W PyProof.Rows L2
set_option maxRecDepth 100000 in
set_option maxHeartbeats 0 in
theorem PySem.Challenge.cw_fivefields_k58_whole_none_between_holds : PySem.Challenge.rw_fivefields_k58_whole_none_between.Holds := by
 w_on;refine holds_law Hd.ws fun said=>?_;refine Hd.lst said ?hw ?hc;(case hw=>w_witness2)
 k_fill
 refine K58.walk (l:=PySem.Challenge.rw_fivefields_k58_whole_none_between) (tN:=315) (tL:=322) (bm:=4) (by decide) rfl Hd.h4 (fun w h Y=>PySem.W.kIn_of Y) Hd.tb Hd.tbm ?F
 case F=>
  intro w mg fa h KX G hmg
  rw[Hd.h5] at hmg
  refine' K58.all_mk (aQ:=319) (aK:=315) (aR:=326) (aL:=322) (aM:=4) KX G hmg ⟨
   ⟨PySem.W.mg_of KX G ?_,⟨?_,?_,?_,?_⟩,?_,?_⟩,
   ?_,
   ⟨PySem.W.mg_of KX G ?_,⟨?_,?_,?_,?_⟩,?_,?_⟩,
   ?_,
   ⟨PySem.W.mg_of KX G ?_,⟨?_,?_,?_,?_⟩,?_,?_⟩,
   ?_,
   ⟨PySem.W.mg_of KX G ?_,⟨?_,?_,?_,?_⟩,?_,?_⟩,
   ?_,
   ⟨PySem.W.mg_of KX G ?_,⟨?_,?_,?_,?_⟩,?_,?_⟩,
   ?_,
   ⟨PySem.W.mg_of KX G ?_,⟨?_,?_,?_,?_⟩,?_,?_⟩,
   ?_,
   ⟨PySem.W.mg_of KX G ?_,⟨?_,?_,?_,?_⟩,?_,?_⟩,
   ?_,
   ?_,
   ⟨PySem.W.mg_of KX G ?_,⟨?_,?_,?_,?_⟩,?_,?_⟩,
   ?_,
   ⟨PySem.W.mg_of KX G ?_,⟨?_,?_,?_,?_⟩,?_,?_⟩,
   ?_,
   ?_,
   ?_,
   ?_,
   ?_,
   ?_,
   PySem.W.mg_of KX G ?_,
   PySem.W.mg_of KX G ?_,
   PySem.W.mg_of KX G ?_,
   K58.q_MONTH_LASTS ?_,
   PySem.W.mg_of KX G ?_,
   PySem.W.mg_of KX G ?_,
   PySem.W.mg_of KX G ?_,
   PySem.W.mg_of KX G ?_,
   PySem.W.mg_of KX G ?_,
   K58.mg_tx (x:="0123456789") KX G (by decide +kernel) ?_,
   PySem.W.mg_of KX G ?_,
   PySem.W.mg_of KX G ?_,
   PySem.W.mg_of KX G ?_,
   PySem.W.mg_of KX G ?_,
   PySem.W.mg_of KX G ?_,
   PySem.W.mg_of KX G ?_,
   PySem.W.mg_of KX G ?_,
   PySem.W.mg_of KX G ?_,
   PySem.W.mg_of KX G ?_,
   PySem.W.mg_of KX G ?_,
   PySem.W.mg_of KX G ?_,
   PySem.W.mg_of KX G ?_,
   PySem.W.mg_of KX G ?_,
   PySem.W.mg_of KX G ?_,
   PySem.W.mg_of KX G ?_,
   PySem.W.mg_of KX G ?_,
   PySem.W.mg_of KX G ?_,
   PySem.W.mg_of KX G ?_,
   PySem.W.mg_of KX G ?_,
   K58.q_BOUNDS ?_,
   K58.q_BOUNDS_0 ?_,
   K58.q_BOUNDS_1 ?_,
   K58.q_BOUNDS_3 ?_,
   PySem.W.mg_of KX G ?_,
   PySem.W.mg_of KX G ?_,
   PySem.W.mg_of KX G ?_,
   PySem.W.mg_of KX G ?_,
   at3 KX G ?_ ?_ ?_ ?_,
   at3 KX G ?_ ?_ ?_ ?_,
   PySem.W.mg_none_of KX G ?_,
   PySem.W.mg_none_of KX G ?_,
   PySem.W.mg_none_of KX G ?_,
   PySem.W.mg_none_of KX G ?_,
   PySem.W.mg_none_of KX G ?_,
   PySem.W.mg_none_of KX G ?_,
   PySem.W.mg_none_of KX G ?_,
   PySem.W.mg_none_of KX G ?_,
   PySem.W.mg_none_of KX G ?_,
   PySem.W.mg_none_of KX G ?_,
   PySem.W.mg_none_of KX G ?_,
   PySem.W.mg_none_of KX G ?_,
   PySem.W.mg_none_of KX G ?_,
   aaK KX G ?_ ?_ ?_ ?_ ?_,
   aaK KX G ?_ ?_ ?_ ?_ ?_,
   aaK KX G ?_ ?_ ?_ ?_ ?_,
   aaK KX G ?_ ?_ ?_ ?_ ?_,
   aaK KX G ?_ ?_ ?_ ?_ ?_,
   aaK KX G ?_ ?_ ?_ ?_ ?_,
   aaK KX G ?_ ?_ ?_ ?_ ?_,
   aaK KX G ?_ ?_ ?_ ?_ ?_,
   aaK KX G ?_ ?_ ?_ ?_ ?_,
   aaK KX G ?_ ?_ ?_ ?_ ?_,
   aaK KX G ?_ ?_ ?_ ?_ ?_,
   aaK KX G ?_ ?_ ?_ ?_ ?_,
   aaK KX G ?_ ?_ ?_ ?_ ?_,
   aaK KX G ?_ ?_ ?_ ?_ ?_,
   aaK KX G ?_ ?_ ?_ ?_ ?_,
   aaK KX G ?_ ?_ ?_ ?_ ?_,
   aaK KX G ?_ ?_ ?_ ?_ ?_,
   aaK KX G ?_ ?_ ?_ ?_ ?_,
   aaK KX G ?_ ?_ ?_ ?_ ?_,
   aaK KX G ?_ ?_ ?_ ?_ ?_,
   aaK KX G ?_ ?_ ?_ ?_ ?_,
   aaK KX G ?_ ?_ ?_ ?_ ?_,
   aaK KX G ?_ ?_ ?_ ?_ ?_,
   aaK KX G ?_ ?_ ?_ ?_ ?_,
   aaK KX G ?_ ?_ ?_ ?_ ?_,
   aaK KX G ?_ ?_ ?_ ?_ ?_,
   aaK KX G ?_ ?_ ?_ ?_ ?_,
   aaK KX G ?_ ?_ ?_ ?_ ?_,
   abC ?_ ?_ ?_ ?_ ?_ ?_,
   abC ?_ ?_ ?_ ?_ ?_ ?_,
   abC ?_ ?_ ?_ ?_ ?_ ?_,
   K58.md_Last___init__ ?_ ?_ ?_ ?_ ?_ ?_,
   abC ?_ ?_ ?_ ?_ ?_ ?_,
   abC ?_ ?_ ?_ ?_ ?_ ?_,
   abC ?_ ?_ ?_ ?_ ?_ ?_,
   abC ?_ ?_ ?_ ?_ ?_ ?_,
   abC ?_ ?_ ?_ ?_ ?_ ?_,
   abC ?_ ?_ ?_ ?_ ?_ ?_,
   abC ?_ ?_ ?_ ?_ ?_ ?_,
   abC ?_ ?_ ?_ ?_ ?_ ?_,
   abC ?_ ?_ ?_ ?_ ?_ ?_,
   abC ?_ ?_ ?_ ?_ ?_ ?_,
   aaK KX G ?_ ?_ ?_ ?_ ?_,
   aaK KX G ?_ ?_ ?_ ?_ ?_,
   aaK KX G ?_ ?_ ?_ ?_ ?_,
   aaK KX G ?_ ?_ ?_ ?_ ?_,
   aaK KX G ?_ ?_ ?_ ?_ ?_,
   aaK KX G ?_ ?_ ?_ ?_ ?_,
   aaK KX G ?_ ?_ ?_ ?_ ?_,
   aaK KX G ?_ ?_ ?_ ?_ ?_,
   aaK KX G ?_ ?_ ?_ ?_ ?_,
   aaK KX G ?_ ?_ ?_ ?_ ?_,
   abC ?_ ?_ ?_ ?_ ?_ ?_,
   abC ?_ ?_ ?_ ?_ ?_ ?_,
   aaK KX G ?_ ?_ ?_ ?_ ?_,
   aaK KX G ?_ ?_ ?_ ?_ ?_,
   aaK KX G ?_ ?_ ?_ ?_ ?_,
   abC ?_ ?_ ?_ ?_ ?_ ?_,
   abC ?_ ?_ ?_ ?_ ?_ ?_,
   aaK KX G ?_ ?_ ?_ ?_ ?_,
   aaK KX G ?_ ?_ ?_ ?_ ?_,
   aaK KX G ?_ ?_ ?_ ?_ ?_,
   aaK KX G ?_ ?_ ?_ ?_ ?_,
   aaK KX G ?_ ?_ ?_ ?_ ?_,
   aaK KX G ?_ ?_ ?_ ?_ ?_,
   aaK KX G ?_ ?_ ?_ ?_ ?_,
   aaK KX G ?_ ?_ ?_ ?_ ?_,
   aaK KX G ?_ ?_ ?_ ?_ ?_,
   abC ?_ ?_ ?_ ?_ ?_ ?_,
   aaK KX G ?_ ?_ ?_ ?_ ?_,
   aaK KX G ?_ ?_ ?_ ?_ ?_,
   aaK KX G ?_ ?_ ?_ ?_ ?_,
   ayV KX G ?_ ?_ ?_ ?_ ?_,
   ayV KX G ?_ ?_ ?_ ?_ ?_,
   aaK KX G ?_ ?_ ?_ ?_ ?_,
   aaK KX G ?_ ?_ ?_ ?_ ?_,
   aaK KX G ?_ ?_ ?_ ?_ ?_,
   aaK KX G ?_ ?_ ?_ ?_ ?_,
   aaK KX G ?_ ?_ ?_ ?_ ?_,
   aaK KX G ?_ ?_ ?_ ?_ ?_,
   aaK KX G ?_ ?_ ?_ ?_ ?_,
   aaK KX G ?_ ?_ ?_ ?_ ?_,
   aaK KX G ?_ ?_ ?_ ?_ ?_,
   aaK KX G ?_ ?_ ?_ ?_ ?_,
   aaK KX G ?_ ?_ ?_ ?_ ?_,
   aaK KX G ?_ ?_ ?_ ?_ ?_⟩ ?_ ?_ ?_ ?_
  all_goals try (intro _ _ _ _ _ _ us hl;first | (obtain⟨_,rfl⟩:=aHF hl;rfl) | (obtain⟨_,_,rfl⟩:=aJJ hl;rfl) | (obtain⟨_,_,_,rfl⟩:=aGJ hl;rfl) | (obtain⟨_,_,_,_,rfl⟩:=len4 hl;rfl))
  all_goals try decide
  all_goals try (as_aux_lemma=>k_is)
  all_goals try decide
