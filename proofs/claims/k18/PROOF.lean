import PyProof.Rows.All
import Wide.All
import OpenK.AllK
import Wide.FinOn
import PyProof.Rows.SeqMore
import HandS.ForMost
import HandS.Exc
import HandS.TryOnly
import HandS.ExcOwn
import HandS.WordsExc
import HandS.IsInst
import HandS.Wide
import HandS.TupAny
import HandS.Flow
import HandS.FStr
import HandS.NoneIn
import HandS.SortKw
import HandS.Codes
import HandS.Steps
import HandS.DictComp
import HandS.WordsDict
import HandS.More
import HandS.Walk
import HandS.Star
import HandS.Deep
import HandS.ExcIs
import HandS.Zip
import HandS.GenList
import HandS.GenCall
import HandS.TryMany
import KE.SortData
import PySem.Challenge.RW_legion_k18_moves_of_situations
set_option Elab.async false
set_option linter.all false
set_option maxRecDepth 100000
namespace My
open PySem PySem.Spec PyProof.Rows L2
/-! ### lists that are read only, joined -/
def rCatS (K : PySem.W.Frag) : R2 := fun x y H Q => ∃ l b xs zs, x = .ref l ∧ y = .ref b ∧ SqL K H l xs ∧ SqL K H b zs ∧ xs.length + zs.length ≤ sizeLine ∧ ∀ p, H p = none → Q (.ref p) (upd H p (.lst (xs ++ zs)))
theorem op_catS {X : Cx} : OpR X (binaryOp .Add) (rCatS X.K) := by
  intro pins s σ H x y v u Q I rx ry h
  obtain ⟨l, b, xs, zs, rfl, rfl, hH, hB, hz, q⟩ := h
  cases rx
  cases ry
  obtain ⟨its, r, pl, z⟩ := I.list hH
  obtain ⟨its2, r2, pl2, z2⟩ := I.list hB
  have hl := r.length
  have hl2 := r2.length
  obtain ⟨⟨cls, dd, data, sl⟩, ho, hc, n, hd⟩ := pl.isList
  obtain ⟨⟨cls2, dd2, data2, sl2⟩, ho2, hc2, n2, hd2⟩ := pl2.isList
  simp only at hc hd hc2 hd2
  subst hc hd hc2 hd2
  have ea : its.toArray ++ its2.toArray = (its ++ its2).toArray := by simp
  refine concat_meets ⟨_, ho, rfl⟩ ⟨_, ho2, rfl⟩ noFill_list_add seq_list_add PySem.F.slot_list_add PySem.F.entry_list_add (PySem.F.args_list_add_2 _ _) (list_addW l b its.toArray its2.toArray n n2 dd dd2 sl sl2 (by rw [List.size_toArray, List.size_toArray]; omega)) ⟨ho, ho2, ?_⟩
  rw [ea]
  exact ⟨.ref _, _, I.lnew (t' := s.toks) (r.append r2) (by rw [List.length_append]; omega), rfl, q _ I.fresh⟩
/-- is True, is False, of anything -/
def rIsBl : R2 := fun x y H Q => ∃ b, y = .bl b ∧ Q (.bl (decide (x = .bl b))) H
theorem op_isBv {X : Cx} : OpR X (compareOp .Is) rIsBl := by
  intro pins s σ H x y v u Q I rx ry h
  obtain ⟨b, rfl, q⟩ := h
  cases (show u = Value.bool b from ry)
  have go : ∀ v : Value, plainIs v (.bool b) = true → (v == Value.bool b) = decide (x = .bl b) → wpAny (model X.prog X.w) X.A (compareOp .Is v (.bool b)) (EP X pins σ Q) X.xe s := fun v hp e =>
    wpAny_is_plain hp (by rw [e]; exact ⟨.bl _, H, I, rfl, q⟩)
  cases x with
  | bl c =>
    cases (show v = Value.bool c from rx)
    refine go _ rfl ?_
    cases b <;> cases c <;> rfl
  | non => cases (show v = Value.none from rx); exact go _ rfl rfl
  | int i => obtain ⟨t, rfl⟩ := (show ∃ t, v = Value.int i t from rx); exact go _ rfl rfl
  | str i => obtain ⟨t, rfl⟩ := (show ∃ t, v = Value.str i t from rx); exact go _ rfl rfl
  | byt i => obtain ⟨t, rfl⟩ := (show ∃ t, v = Value.bytes i t from rx); exact go _ rfl rfl
  | flt i => obtain ⟨t, rfl⟩ := (show ∃ t, v = Value.float i t from rx); exact go _ rfl rfl
  | ref a => cases (show v = Value.ref a from rx); exact go _ rfl rfl
  | ty a => cases (show v = Value.type a from rx); exact go _ rfl rfl
/-! ### rules with the written part named -/
section
variable {X : Cx} (K : PySem.W.Frag)
theorem ixL (h : X.K = K := by rfl) : IxR X (rIxL K) := h ▸ ix_list
theorem ixT (h : X.K = K := by rfl) : IxR X (rIxT K) := h ▸ ix_tup
theorem ixQ (h : X.K = K := by rfl) : IxR X (rIx K) := h ▸ ix_seq
theorem opIn (h : X.K = K := by rfl) : OpR X (compareOp .In) (rIn K false) := h ▸ op_in_seq
theorem opNotIn (h : X.K = K := by rfl) : OpR X (compareOp .NotIn) (rIn K true) := h ▸ op_notIn_seq
theorem opCat (h : X.K = K := by rfl) : OpR X (binaryOp .Add) (rCatS K) := h ▸ op_catS
theorem opCatT (h : X.K = K := by rfl) : OpR X (binaryOp .Add) (rCatA K) := h ▸ op_catA
theorem opEqD (hu : X.A.units + 64 < cLine) (h : X.K = K := by rfl) : OpR X (compareOp .Eq) (rEqD K) := h ▸ op_eqD hu
theorem opNeD (hu : X.A.units + 64 < cLine) (h : X.K = K := by rfl) : OpR X (compareOp .NotEq) (rNeD K) := h ▸ op_neD hu
theorem slL (h : X.K = K := by rfl) : SlR X (rSlL K) := h ▸ sl_list
theorem slT (h : X.K = K := by rfl) : SlR X (rSlT K) := h ▸ sl_tup
def rLenQ (K : PySem.W.Frag) : List V → Hp → VK → Prop := fun xs H Q => ∃ p ys, xs = [.ref p] ∧ (SqL K H p ys ∨ SqT K H p ys) ∧ Q (.int ys.length) H
theorem cLen (h : X.K = K := by rfl) : CallR X (.builtin "len") (rLenQ K) := h ▸ call_len_seq
def rListQ (K : PySem.W.Frag) : List V → Hp → VK → Prop := fun xs H Q => ∃ p ys, xs = [.ref p] ∧ (SqL K H p ys ∨ SqT K H p ys) ∧ ∀ l, H l = none → Q (.ref l) (upd H l (.lst ys))
theorem cList (h : X.K = K := by rfl) : CallR X (.type "list") (rListQ K) := h ▸ call_list_of
theorem cSum (hc : X.calm = true) (h : X.K = K := by rfl) : CallR X (.builtin "sum") (rSum K) := h ▸ cr_sum hc
theorem cAll (hc : X.calm = true) (h : X.K = K := by rfl) : CallR X (.builtin "all") (rAll K) := h ▸ cr_all hc
theorem cAny (hc : X.calm = true) (h : X.K = K := by rfl) : CallR X (.builtin "any") (rAny K) := h ▸ cr_any hc
theorem cIsi (h : X.K = K := by rfl) : CallR X (.builtin "isinstance") (rIsi K) := h ▸ call_isi
theorem peBm {T name id : String} {r : V → List V → Hp → VK → Prop} {to : TE} {t : TA} {o e : Expr} {es : List Expr} {apos cpos : Pos} (pa : PlainAttrs T) (slot : Slot T name id) (hty : typeOf (.builtin id) = pure (.type "method_descriptor")) (hm : MtR X id r) (ho : PE X o to) (ha : PA X (e :: es) t) (h : X.K = K := by rfl)
    (hbase : attributeBase o name X.env (eval o X.env) = eval o X.env := by rfl)
    (hfew : ((backTo cpos (starEach (e :: es) X.env)).all (fun x => !x.1) && (backToKw cpos (keywordEach [] X.env)).all (fun x => x.1.isSome)
      && decide ((e :: es).length + ([] : List Keyword).length + (if ([] : List Keyword).isEmpty then 0 else 1) < 30)) = true := by rfl)
    (hline : (apos.endLine == cpos.line) = true := by rfl) (hs : starEach (e :: es) X.env = (false, eval e X.env) :: starEach es X.env := by rfl) (hplain : (backTo cpos (starEach es X.env)).any (·.1) = false := by rfl) :
    PE X (.Call (.Attribute o name apos) (e :: es) [] cpos) (tBM K T r to t) := h ▸ pe_bm pa slot hty hm ho ha hbase hfew hline hs hplain
def tTruK (K : PySem.W.Frag) (ta : TE) : TT := fun σ H Q => ta σ H fun x H' => ∃ k, TruV K x H' k ∧ Q k H'
theorem ptTru {a : Expr} {ta : TE} (ha : PE X a ta) (he : ∀ whole, isTrue a X.env whole = (do let v ← whole; standAt a.pos; holding [v] (truthy v))) (h : X.K = K := by rfl) : PT X a (tTruK K ta) := h ▸ pt_truth ha he
theorem piL {tg l : Expr} {tl : TE} (hl : PE X l tl) (h : X.K = K := by rfl) : PI X tg l (iList K tl) := h ▸ pi_list hl
theorem piT {tg l : Expr} {tl : TE} (hl : PE X l tl) (h : X.K = K := by rfl) : PI X tg l (iTup K tl) := h ▸ pi_tup hl
end
/-! ### a def that is known -/
structure Fd (P : Program) (w : World) (K : PySem.W.Frag) (mg : Str → Option Value) (base : Heap) (x : Str) (ps : List Str) (k : Nat) (sp : Sp) : Prop where
  ex : ∃ (f : Addr) (fd : FuncData), FnOk P w K mg base CX0 k f fd ps sp ∧ mg x = some (.ref f) ∧ PySem.W.keepIn K (.ref f) = true ∧ Binds K fd ps []
theorem pe_fn {X : Cx} {x : Str} {ps : List Str} {k : Nat} {sp : Sp} {e : Expr} {es : List Expr} {t : TA} {p pos : Pos} (F : Fd X.prog X.w X.K X.mg X.base x ps k sp) (hr : Room k X.A) (hg : Gl X x) (ha : PA X (e :: es) t)
    (hdb : (x == ("__debug__" : Str)) = false := by decide) (he : starEach (e :: es) X.env = (false, eval e X.env) :: starEach es X.env := by rfl) (hpl : (backTo pos (starEach es X.env)).any (·.1) = false := by rfl) :
    PE X (.Call (.Name x p) (e :: es) [] pos) (tCall sp [] E0 t) := by
  obtain ⟨f, fd, G, m, kp, b⟩ := F.ex
  exact pe_call G hr hg m kp b .nil pass0 ha hdb he hpl
/-- the built-ins stand as they were -/
structure Bt (mg : Str → Option Value) : Prop where
  len : mg "len" = none
  int : mg "int" = none
  abs : mg "abs" = none
  range : mg "range" = none
  min : mg "min" = none
  str : mg "str" = none
  isinstance : mg "isinstance" = none
  bool : mg "bool" = none
  sum : mg "sum" = none
  list : mg "list" = none
  tuple : mg "tuple" = none
  repr : mg "repr" = none
  sorted : mg "sorted" = none
  enumerate : mg "enumerate" = none
  zip : mg "zip" = none
  all : mg "all" = none
  dict : mg "dict" = none
  max : mg "max" = none
  set : mg "set" = none
  ValueError : mg "ValueError" = none
/-! ### heaps -/
theorem same_new {H : Hp} {p : Addr} {o : HO} (h : H p = none) : Same H (upd H p o) := fun b x e => by
  rw [upd_ne (ne_of_none e h)]
  exact e
/-- an object that H does not know may change -/
theorem Same.mut {H H' : Hp} {p : Addr} {o : HO} (e : Same H H') (h : H p = none) : Same H (upd H' p o) := fun a u ha => by
  rw [upd_ne (ne_of_none ha h)]
  exact e a u ha
theorem sq {K : PySem.W.Frag} {H : Hp} {a : Addr} {xs : List V} (h : H a = some (.lst xs)) : SqL K H a xs := .inl (.inl h)
theorem st {K : PySem.W.Frag} {H : Hp} {a : Addr} {xs : List V} (h : H a = some (.tup xs)) : SqT K H a xs := .inl (.inl h)
theorem sz {n : Nat} (h : n ≤ 100000) : n ≤ sizeLine := Nat.le_trans h (by decide)
theorem szl {n : Nat} (h : n < 100000) : n < sizeLine := Nat.lt_of_lt_of_le h (by decide)
theorem Same.seqT {K : PySem.W.Frag} {H H' : Hp} {a : Addr} {xs : List V} (e : Same H H') (h : SqT K H a xs) : SqT K H' a xs := by
  rcases h with (h | ⟨o, h⟩) | h
  · exact .inl (.inl (e _ _ h))
  · exact .inl (.inr ⟨o, e _ _ h⟩)
  · exact .inr h
/-! ### numbers drawn below limits -/
def DOk : List Int → List Int → Prop
  | [], [] => True
  | d :: ds, m :: ms => (0 ≤ d ∧ d < m) ∧ DOk ds ms
  | _, _ => False
theorem DOk.snoc : ∀ {ds ms : List Int} {d m : Int}, DOk ds ms → 0 ≤ d → d < m → DOk (ds ++ [d]) (ms ++ [m])
  | [], [], _, _, _, h0, h1 => ⟨⟨h0, h1⟩, trivial⟩
  | [], _ :: _, _, _, h, _, _ => h.elim
  | _ :: _, [], _, _, h, _, _ => h.elim
  | _ :: _, _ :: _, _, _, h, h0, h1 => ⟨h.1, DOk.snoc h.2 h0 h1⟩
theorem DOk.len : ∀ {ds ms : List Int}, DOk ds ms → ds.length = ms.length
  | [], [], _ => rfl
  | [], _ :: _, h => h.elim
  | _ :: _, [], h => h.elim
  | _ :: _, _ :: _, h => by rw [List.length_cons, List.length_cons, DOk.len h.2]
theorem DOk.at : ∀ {ds ms : List Int} {i : Nat} {m : Int}, DOk ds ms → ms[i]? = some m → ∃ d, ds[i]? = some d ∧ 0 ≤ d ∧ d < m
  | [], [], _, _, _, e => by simp at e
  | [], _ :: _, _, _, h, _ => h.elim
  | _ :: _, [], _, _, h, _ => h.elim
  | d :: _, _ :: _, 0, m, h, e => ⟨d, rfl, h.1.1, by have := Option.some.inj e; rw [← this]; exact h.1.2⟩
  | _ :: ds, _ :: ms, i + 1, m, h, e => DOk.at (ds := ds) (ms := ms) (i := i) h.2 e
theorem DOk.cons {ds ms : List Int} {m : Int} (h : DOk ds (m :: ms)) : ∃ d r, ds = d :: r ∧ 0 ≤ d ∧ d < m ∧ DOk r ms := by
  cases ds with
  | nil => exact h.elim
  | cons d r => exact ⟨d, r, rfl, h.1.1, h.1.2, h.2⟩
theorem DOk.nil {ds : List Int} (h : DOk ds []) : ds = [] := by
  cases ds with
  | nil => rfl
  | cons d r => exact h.elim
theorem get_map {α : Type} {f : α → V} {xs : List α} {i : Nat} {x : α} (h : xs[i]? = some x) : (xs.map f)[i]? = some (f x) := by
  rw [List.getElem?_map, h]; rfl
theorem get_map_inv {α : Type} {f : α → V} {xs : List α} {i : Nat} {v : V} (h : (xs.map f)[i]? = some v) : ∃ x, xs[i]? = some x ∧ v = f x := by
  rw [List.getElem?_map] at h
  cases e : xs[i]? with
  | none => rw [e] at h; cases h
  | some x => rw [e] at h; exact ⟨x, rfl, (Option.some.inj h).symm⟩
theorem fmod_pos {a m : Int} (h : 0 < m) : 0 ≤ a.fmod m ∧ a.fmod m < m := ⟨Int.fmod_nonneg_of_pos a h, Int.fmod_lt_of_pos a h⟩
theorem take_snoc {α : Type} {xs : List α} {i : Nat} {x : α} (h : xs[i]? = some x) : xs.take (i + 1) = xs.take i ++ [x] := by
  rw [List.take_add_one, h]; rfl
end My
namespace My
open PySem PySem.Spec PyProof.Rows L2
def topS (i : Nat) : Stmt := PySem.Challenge.pw_legion_k18_moves_of_situations.main.body.getD i (.Pass ⟨0, 0, 0, 0⟩)
theorem atI_in {α : Type} {xs : List α} {i : Int} (h0 : 0 ≤ i) (h1 : i < xs.length) : ∃ v, atI xs i = some v ∧ v ∈ xs := by
  obtain ⟨n, rfl⟩ := Int.eq_ofNat_of_zero_le h0
  have hn : n < xs.length := by omega
  exact ⟨xs[n], atI_nat (List.getElem?_eq_getElem hn), List.getElem_mem hn⟩
theorem atI_map {α : Type} {f : α → V} {xs : List α} {i : Int} (h0 : 0 ≤ i) (h1 : i < xs.length) : ∃ v, atI (xs.map f) i = some (f v) ∧ v ∈ xs ∧ xs[i.toNat]? = some v := by
  obtain ⟨n, rfl⟩ := Int.eq_ofNat_of_zero_le h0
  have hn : n < xs.length := by omega
  exact ⟨xs[n], atI_nat (get_map (List.getElem?_eq_getElem hn)), List.getElem_mem hn, List.getElem?_eq_getElem hn⟩
theorem len_app (a b : Str) : (a ++ b).length = a.length + b.length := by
  show (a.cps ++ b.cps).size = a.cps.size + b.cps.size
  exact Array.size_append
theorem len_join0 : ∀ (parts : List Str), (∀ p ∈ parts, p.length = 1) → (Txt.join (Str.ofString "") parts).length = parts.length := by
  intro parts h
  have e : ∀ parts : List Str, (∀ p ∈ parts, p.length = 1) → (TL.joinL [] (parts.map TL.tl)).length = parts.length := by
    intro parts
    induction parts with
    | nil => intro _; rfl
    | cons p r ih =>
      intro h
      have hp : (TL.tl p).length = 1 := by
        have := h p List.mem_cons_self
        rw [← this]
        exact Array.length_toList
      have hr := ih fun q hq => h q (List.mem_cons_of_mem _ hq)
      cases r with
      | nil => show (TL.tl p).length = 1; exact hp
      | cons q r =>
        show (TL.tl p ++ ([] ++ TL.joinL [] ((q :: r).map TL.tl))).length = _
        rw [List.length_append, List.nil_append, hr, hp, List.length_cons (a := p)]
        omega
  have e2 := TL.tl_join (Str.ofString "") parts
  rw [← TL.join_eq] at e2
  have e3 : (Txt.join (Str.ofString "") parts).length = (TL.tl (Txt.join (Str.ofString "") parts)).length := Array.length_toList.symm
  rw [e3, e2, show TL.tl (Str.ofString "") = [] by decide +kernel]
  exact e parts h
theorem len_digits : ∀ k : Nat, k < 60 → ((toString (k : Int) : String) |> fun s => (Str.ofString s).length) ≤ 2 := by
  intro k hk
  have : ∀ k : Fin 60, ((toString ((k : Nat) : Int) : String) |> fun s => (Str.ofString s).length) ≤ 2 := by decide +kernel
  exact this ⟨k, hk⟩
/-! ### tests that leave the heap -/
theorem ansOr {t u : TT} {σ : L2.St} {H : Hp} {a b : Bool} (ha : Ans t σ H a) (hb : Ans u σ H b) : Ans (tOr t u) σ H (a || b) := fun Q q => ha _ (by
  cases a with
  | true => exact iteT q
  | false => exact iteF (hb Q q))
theorem ansAnd {t u : TT} {σ : L2.St} {H : Hp} {a b : Bool} (ha : Ans t σ H a) (hb : Ans u σ H b) : Ans (tAnd t u) σ H (a && b) := fun Q q => ha _ (by
  cases a with
  | true => exact iteT (hb Q q)
  | false => exact iteF q)
theorem ifS {c : TT} {t u : TS} {D : Ends} {σ : L2.St} {H : Hp} {b : Bool} (h : Ans c σ H b) (ht : b = true → t D σ H) (hu : b = false → u D σ H) : tIfS c t u D σ H := h _ (by
  cases b with
  | true => exact iteT (ht rfl)
  | false => exact iteF (hu rfl))
theorem sum_ones : ∀ {ss : List Str}, (∀ s ∈ ss, s.length = 1) → (ss.map (·.length)).sum = ss.length
  | [], _ => rfl
  | s :: r, h => by
    rw [List.map_cons, List.sum_cons, sum_ones fun x hx => h x (List.mem_cons_of_mem _ hx), h s List.mem_cons_self, List.length_cons]
    omega
theorem flat_strs (ss : List Str) : (ss.map V.str).all flatV = true := by
  rw [List.all_eq_true]
  intro v hv
  obtain ⟨s, _, rfl⟩ := List.mem_map.mp hv
  rfl
theorem szc (n : Nat) {xs : List V} (h : xs.length = n := by rfl) (hn : n ≤ 100000 := by decide) : xs.length ≤ sizeLine := by rw [h]; exact sz hn
theorem ansIsi {K : PySem.W.Frag} {te : TE} {σ : L2.St} {H : Hp} {x : V} {T T2 : String} {b : Bool} (hx : ∀ Q : VK, Q x H → te σ H Q) (ty : TyX K H x (.type T)) (hb : kitB T T2 = some b) :
    Ans (tB (tCB (rIsi K) (tCons te (tCons (tC (.ty T2)) tNil)))) σ H b := fun Q q => hx _ ⟨x, _, _, _, b, rfl, .ty T2, ty, kit_ty hb, _, rfl, q⟩
theorem ansTo {t : TT} {σ : L2.St} {H : Hp} {b b' : Bool} (h : Ans t σ H b) (e : b = b') : Ans t σ H b' := e ▸ h
/-- lo <= x <= hi over whole numbers -/
theorem ansChain {ta tb tc : TE} {σ : L2.St} {H : Hp} {i j k : Int} (ha : Val ta σ H (.int i)) (hb : Val tb σ H (.int j)) (hc : Val tc σ H (.int k)) :
    Ans (tTest (tChain (rI0 fun i j => .bl (decide (i ≤ j))) (rI0 fun i j => .bl (decide (i ≤ j))) ta tb tc)) σ H (decide (i ≤ j) && decide (j ≤ k)) := fun Q q =>
  ha _ (hb _ ⟨i, j, rfl, rfl, _, rfl, by
    by_cases h : i ≤ j
    · rw [if_pos (decide_eq_true h)]
      refine hc _ ⟨j, k, rfl, rfl, _, rfl, ?_⟩
      rw [decide_eq_true h, Bool.true_and] at q
      exact q
    · rw [if_neg (by rw [decide_eq_false h]; exact Bool.false_ne_true)]
      rw [decide_eq_false h, Bool.false_and] at q
      exact ⟨_, rfl, q⟩⟩)
theorem ifQ {c : TT} {t u r : TS} {D : Ends} {σ : L2.St} {H : Hp} {b : Bool} (h : Ans c σ H b) (ht : b = true → t { D with nx := r D } σ H) (hu : b = false → u { D with nx := r D } σ H) : tSeq (tIfS c t u) r D σ H := ifS (D := { D with nx := r D }) h ht hu
theorem noQ {c : TT} {t r : TS} {D : Ends} {σ : L2.St} {H : Hp} (h : Ans c σ H false) (q : r D σ H) : tSeq (tIfS c t tNext) r D σ H := ifQ h (fun z => nomatch z) fun _ => q
theorem noS {c : TT} {t : TS} {D : Ends} {σ : L2.St} {H : Hp} (h : Ans c σ H false) (q : D.nx σ H) : tIfS c t tNext D σ H := ifS h (fun z => nomatch z) fun _ => q
theorem ifR {c : TT} {t r : TS} {D : Ends} {σ : L2.St} {H : Hp} {b : Bool} (h : Ans c σ H b) (ht : b = true → t { D with nx := r D } σ H) (hu : b = false → r D σ H) : tSeq (tIfS c t tNext) r D σ H := ifQ h ht hu
theorem cutV_map {α : Type} (f : α → V) (xs : List α) (lo hi : Option Int) : ∃ ys : List α, cutV (xs.map f) lo hi = ys.map f ∧ ys.length ≤ xs.length ∧ ∀ y ∈ ys, y ∈ xs := by
  refine ⟨(xs.drop (HT.sIx (xs.map f).length 0 lo)).take (HT.sIx (xs.map f).length (xs.map f).length hi - HT.sIx (xs.map f).length 0 lo), ?_, ?_, ?_⟩
  · unfold cutV
    rw [List.map_take, List.map_drop]
  · rw [List.length_take, List.length_drop]
    omega
  · intro y hy
    exact List.mem_of_mem_drop (List.mem_of_mem_take hy)
theorem iteFx {c : Bool} {A B : Prop} (h : c = false) (q : B) : if c = true then A else B := by
  subst h
  exact iteF q
theorem iteTx {c : Bool} {A B : Prop} (h : c = true) (q : A) : if c = true then A else B := by
  subst h
  exact iteT q
/-! ### names -/
def lets : Str := Str.ofString "abcdefghijklmnopqrstuvwxyz"
def sgns : Str := Str.ofString "abcdefghijklmnopqrstuvwxyz0123456789"
def resv : List Str := ["share", "lock", "bell", "kind", "any", "local", "skip", "set", "acquire", "release", "rest", "wake", "start", "check", "await", "mark", "if", "else", "loop", "choose", "or", "end", "and", "not"].map Str.ofString
structure NmF (s : Str) : Prop where
  l1 : 1 ≤ s.length
  l20 : s.length ≤ 20
  hd : ∃ c r, s.cps.toList = c :: r ∧ c ∈ lets.cps.toList
  al : ∀ c ∈ s.cps.toList, c ∈ sgns.cps.toList
theorem str_len (s : Str) : s.cps.toList.length = s.length := Array.length_toList
theorem str_app (a b : Str) : (a ++ b).cps.toList = a.cps.toList ++ b.cps.toList := by
  show (a.cps ++ b.cps).toList = _
  exact Array.toList_append
theorem let_sgn {c : Nat} (h : c ∈ lets.cps.toList) : c ∈ sgns.cps.toList := by
  have e : sgns = lets ++ Str.ofString "0123456789" := by decide +kernel
  rw [e, str_app]
  exact List.mem_append_left _ h
theorem nmF_cons {s : Str} {c : Nat} {r : List Nat} (e : s.cps.toList = c :: r) (hc : c ∈ lets.cps.toList) (hr : ∀ x ∈ r, x ∈ sgns.cps.toList) (hl : r.length ≤ 19) : NmF s := by
  have := str_len s
  rw [e, List.length_cons] at this
  refine ⟨by omega, by omega, ⟨c, r, e, hc⟩, fun x hx => ?_⟩
  rw [e] at hx
  rcases List.mem_cons.mp hx with h | h
  · rw [h]; exact let_sgn hc
  · exact hr x h
def nmfB (l : List Nat) : Bool := match l with
  | [] => false
  | c :: r => decide (c ∈ lets.cps.toList) && (r.all fun x => decide (x ∈ sgns.cps.toList)) && decide (r.length ≤ 19)
theorem nmF_of {s : Str} (h : nmfB s.cps.toList = true) : NmF s := by
  cases e : s.cps.toList with
  | nil => rw [e] at h; cases h
  | cons c r =>
    rw [e] at h
    simp only [nmfB, Bool.and_eq_true, decide_eq_true_eq, List.all_eq_true] at h
    exact nmF_cons e h.1.1 h.1.2 h.2
def digL (i : Nat) : List Nat := (Str.ofString (toString (i : Int))).cps.toList
theorem dig_ok : ∀ i : Fin 31, (∃ c r, digL i = c :: r ∧ c ∉ lets.cps.toList) ∧ (∀ x ∈ digL i, x ∈ sgns.cps.toList) ∧ (digL i).length ≤ 2 := by
  have h : ∀ i : Fin 31, (match digL i with
    | [] => false
    | c :: _ => !decide (c ∈ lets.cps.toList)) = true ∧ ((digL i).all fun x => decide (x ∈ sgns.cps.toList)) = true ∧ (digL i).length ≤ 2 := by decide +kernel
  intro i
  obtain ⟨h1, h2, h3⟩ := h i
  refine ⟨?_, fun x hx => of_decide_eq_true (List.all_eq_true.mp h2 x hx), h3⟩
  cases e : digL i with
  | nil => rw [e] at h1; cases h1
  | cons c r => rw [e] at h1; exact ⟨c, r, rfl, by simpa using h1⟩
def letAt (j : Nat) : Nat := lets.cps.toList.getD j 0
theorem let_inj : ∀ a b : Fin 26, letAt a = letAt b → a = b := by decide +kernel
theorem let_in : ∀ a : Fin 26, letAt a ∈ lets.cps.toList := by decide +kernel
def candL (i j : Nat) : List Nat := letAt (j % 26) :: (digL i ++ if j < 26 then [] else [120])
theorem cand_f {i j : Nat} (hi : i < 31) (s : Str) (e : s.cps.toList = candL i j) : NmF s := by
  obtain ⟨_, h2, h3⟩ := dig_ok ⟨i, hi⟩
  refine nmF_cons e (let_in ⟨j % 26, by omega⟩) (fun x hx => ?_) ?_
  · rcases List.mem_append.mp hx with h | h
    · exact h2 x h
    · split at h
      · cases h
      · rw [List.mem_singleton.mp h]; decide +kernel
  · rw [List.length_append]
    have : (if j < 26 then [] else [120] : List Nat).length ≤ 1 := by split <;> decide
    have h3' : (digL i).length ≤ 2 := h3
    omega
theorem resv_let : ∀ s ∈ resv, ∀ c ∈ s.cps.toList, c ∈ lets.cps.toList := by decide +kernel
theorem cand_nr {i j : Nat} (hi : i < 31) (s : Str) (e : s.cps.toList = candL i j) : s ∉ resv := fun hm => by
  obtain ⟨⟨c, r, ec, hc⟩, _⟩ := dig_ok ⟨i, hi⟩
  refine hc (resv_let s hm c ?_)
  rw [e]
  have : digL i = c :: r := ec
  unfold candL
  rw [this]
  exact List.mem_cons_of_mem _ (List.mem_append_left _ List.mem_cons_self)
theorem cand_inj {i j k : Nat} (hj : j < 52) (hk : k < 52) (e : candL i j = candL i k) : j = k := by
  have h1 : letAt (j % 26) = letAt (k % 26) := (List.cons.inj e).1
  have h2 := congrArg List.length (List.cons.inj e).2
  have h3 := congrArg Fin.val (let_inj ⟨j % 26, by omega⟩ ⟨k % 26, by omega⟩ h1)
  have h4 : j % 26 = k % 26 := h3
  rw [List.length_append, List.length_append] at h2
  split at h2 <;> split at h2 <;> simp only [List.length_nil, List.length_cons] at h2 <;> omega
theorem pigeon {α : Type} [BEq α] [LawfulBEq α] : ∀ (xs ys : List α), xs.Nodup → (∀ x ∈ xs, x ∈ ys) → xs.length ≤ ys.length
  | [], _, _, _ => Nat.zero_le _
  | x :: r, ys, hn, h => by
    have hx := h x List.mem_cons_self
    obtain ⟨hnx, hnr⟩ := List.nodup_cons.mp hn
    have ih := pigeon r (ys.erase x) hnr fun y hy => (List.mem_erase_of_ne fun (e : y = x) => hnx (e ▸ hy)).mpr (h y (List.mem_cons_of_mem _ hy))
    rw [List.length_erase_of_mem hx] at ih
    have := List.length_pos_of_mem hx
    rw [List.length_cons]
    omega
/-- of 52 names one is free -/
theorem cand_free {i : Nat} (hi : i < 31) {ss : List Str} (hl : ss.length < 52) (h : ∀ j < 52, ∀ s : Str, s.cps.toList = candL i j → s ∈ ss ∨ s ∈ resv) : False := by
  have hs : ∀ j < 52, candL i j ∈ ss.map fun s => s.cps.toList := fun j hj => by
    have e : ((⟨(candL i j).toArray⟩ : Str)).cps.toList = candL i j := rfl
    rcases h j hj _ e with m | m
    · exact List.mem_map.mpr ⟨_, m, e⟩
    · exact absurd m (cand_nr hi _ e)
  have hn : ((List.range 52).map (candL i)).Nodup := by
    refine List.nodup_iff_pairwise_ne.mpr ?_ |> fun z => z
    rw [List.pairwise_map]
    refine List.Pairwise.imp_of_mem (fun {a b} ha hb hab e => ?_) (List.nodup_iff_pairwise_ne.mp List.nodup_range)
    exact hab (cand_inj (List.mem_range.mp ha) (List.mem_range.mp hb) e)
  have := pigeon _ _ hn fun x hx => by
    obtain ⟨j, hj, rfl⟩ := List.mem_map.mp hx
    exact hs j (List.mem_range.mp hj)
  rw [List.length_map, List.length_map, List.length_range] at this
  omega
theorem cut_x : ∀ j : Fin 52, (cutS (Str.ofString "x") none (some (((j : Nat) : Int) / 26))).cps.toList = (if (j : Nat) < 26 then [] else [120]) := by decide +kernel
structure NmsOk (ss : List Str) : Prop where
  f : ∀ s ∈ ss, NmF s
  r : ∀ s ∈ ss, s ∉ resv
  nd : ss.Nodup
theorem NmsOk.snoc {ss : List Str} {s : Str} (h : NmsOk ss) (hf : NmF s) (hr : s ∉ resv) (hs : s ∉ ss) : NmsOk (ss ++ [s]) where
  f := fun x hx => by
    rcases List.mem_append.mp hx with m | m
    · exact h.f x m
    · rw [List.mem_singleton.mp m]; exact hf
  r := fun x hx => by
    rcases List.mem_append.mp hx with m | m
    · exact h.r x m
    · rw [List.mem_singleton.mp m]; exact hr
  nd := by
    refine List.nodup_append.mpr ⟨h.nd, List.nodup_cons.mpr ⟨(fun m => by cases m), List.nodup_nil⟩, fun a ha b hb e => ?_⟩
    rw [List.mem_singleton.mp hb] at e
    exact hs (e ▸ ha)
theorem inV_iff {l : Str} {xs : List Str} : inV (V.str l) (xs.map V.str) = true ↔ l ∈ xs := by
  unfold inV
  rw [List.any_map, List.any_eq_true]
  constructor
  · rintro ⟨x, hx, h⟩
    have : (x == l) = true := h
    rw [← eq_of_beq this]
    exact hx
  · intro h
    exact ⟨l, h, (beq_self_eq_true l : (l == l) = true)⟩
theorem mem_join0 {S : List Nat} : ∀ (parts : List Str), (∀ p ∈ parts, ∀ c ∈ p.cps.toList, c ∈ S) → ∀ c ∈ (Txt.join (Str.ofString "") parts).cps.toList, c ∈ S := by
  intro parts h c hc
  have e2 := TL.tl_join (Str.ofString "") parts
  rw [← TL.join_eq, show TL.tl (Str.ofString "") = [] by decide +kernel] at e2
  have e3 : (Txt.join (Str.ofString "") parts).cps.toList = TL.joinL [] (parts.map TL.tl) := e2
  rw [e3] at hc
  clear e2 e3
  induction parts with
  | nil => cases hc
  | cons p r ih =>
    cases r with
    | nil => exact h p List.mem_cons_self c hc
    | cons q r =>
      have hc2 : c ∈ TL.tl p ++ ([] ++ TL.joinL [] ((q :: r).map TL.tl)) := hc
      rw [List.nil_append] at hc2
      rcases List.mem_append.mp hc2 with m | m
      · exact h p List.mem_cons_self c m
      · exact ih (fun p hp => h p (List.mem_cons_of_mem _ hp)) m
theorem str_ext {a b : Str} (h : a.cps.toList = b.cps.toList) : a = b := by
  cases a; cases b
  have := Array.toList_inj.mp h
  simp only at this
  rw [this]
/-! ### values and conditions as trees -/
theorem Fd.none {P : Program} {w : World} {K : PySem.W.Frag} {mg : Str → Option Value} {base : Heap} {x qual : Str} {st : Stmt} {f : Addr} {fd : FuncData} {ps : List Str} {k : Nat} {sp : Sp} (F : Fun K x qual st f fd) (m : mg x = some (.ref f)) (b : Binds K fd ps [])
    (no : ∀ vs H Q E, ¬ sp vs H Q E) : Fd P w K mg base x ps k sp := ⟨f, fd, ⟨fun vs H Q E h => absurd h (no vs H Q E), fun A outer s H args us vs Q E _ _ _ _ h => absurd h (no vs H Q E)⟩, m, F.kp, b⟩
theorem yesQ {c : TT} {t u r : TS} {D : Ends} {σ : L2.St} {H : Hp} (h : Ans c σ H true) (q : t { D with nx := r D } σ H) : tSeq (tIfS c t u) r D σ H := ifQ h (fun _ => q) fun z => nomatch z
theorem yesS {c : TT} {t u : TS} {D : Ends} {σ : L2.St} {H : Hp} (h : Ans c σ H true) (q : t D σ H) : tIfS c t u D σ H := ifS h (fun _ => q) fun z => nomatch z
/-- what is new in H' over H -/
def Nw (H H' : Hp) : Hp := fun a => match H a with
  | none => H' a
  | some _ => none
theorem nw_at {H H' : Hp} {a : Addr} (h : H a = none) : Nw H H' a = H' a := by
  unfold Nw
  rw [h]
theorem nw_old {H H' : Hp} {a : Addr} {o : HO} (h : H a = some o) : Nw H H' a = none := by
  unfold Nw
  rw [h]
theorem nw_some {H H' : Hp} {a : Addr} {o : HO} (h : Nw H H' a = some o) : H a = none ∧ H' a = some o := by
  cases e : H a with
  | none => rw [nw_at e] at h; exact ⟨rfl, h⟩
  | some x => rw [nw_old e] at h; cases h
theorem nw_same {H H' : Hp} : Same (Nw H H') H' := fun _ _ h => (nw_some h).2
theorem nw_mono {H H1 H2 H3 : Hp} (a : Same H H1) (b : Same H2 H3) : Same (Nw H1 H2) (Nw H H3) := fun x o h => by
  obtain ⟨h1, h2⟩ := nw_some h
  rw [nw_at (a.free h1)]
  exact b x o h2
/-- what is there is there -/
def Dm (H H' : Hp) : Prop := ∀ a, H' a = none → H a = none
theorem Same.dm {H H' : Hp} (s : Same H H') : Dm H H' := fun _ h => s.free h
theorem Dm.trans {H H1 H2 : Hp} (a : Dm H H1) (b : Dm H1 H2) : Dm H H2 := fun x h => a x (b x h)
theorem dm_upd {H H' : Hp} {D : Addr} {o u : HO} (s : Same H H') (h : H' D = some o) : Dm (upd H D u) H' := fun a ha => by
  have hne : a ≠ D := fun e => by rw [e, h] at ha; cases ha
  rw [upd_ne hne]
  exact s.free ha
theorem dm_up {H : Hp} {D : Addr} {u : HO} : Dm H (upd H D u) := fun a ha => by
  by_cases e : a = D
  · rw [e, upd_same] at ha; cases ha
  · rw [upd_ne e] at ha; exact ha
theorem nw_mono2 {H H1 H2 H3 : Hp} (a : Dm H H1) (b : Same H2 H3) : Same (Nw H1 H2) (Nw H H3) := fun x o h => by
  obtain ⟨h1, h2⟩ := nw_some h
  rw [nw_at (a x h1)]
  exact b x o h2
theorem nw_upd {H H' : Hp} {a : Addr} {o u : HO} (h : H a = some o) : Same (Nw H H') (Nw H (upd H' a u)) := fun x y e => by
  obtain ⟨h1, h2⟩ := nw_some e
  rw [nw_at h1, upd_ne (ne_of_none h h1).symm]
  exact h2
inductive Ar where
  | add | sub | mul
def Ar.tx : Ar → Str
  | .add => Str.ofString "+"
  | .sub => Str.ofString "-"
  | .mul => Str.ofString "*"
def Ar.ev : Ar → Int → Int → Int
  | .add, a, b => a + b
  | .sub, a, b => a - b
  | .mul, a, b => a * b
inductive VT where
  | int (i : Int) | nm (s : Str) | op (o : Ar) (a b : VT)
def VT.ht : VT → Nat
  | .op _ a b => max a.ht b.ht + 1
  | _ => 0
def RVal (H : Hp) : VT → V → Prop
  | .int i, v => v = .int i
  | .nm s, v => v = .str s
  | .op o a b, v => ∃ t x y, v = .ref t ∧ H t = some (.tup [.str o.tx, x, y]) ∧ RVal H a x ∧ RVal H b y
theorem RVal.mono {H H' : Hp} (e : Same H H') : ∀ {t : VT} {v : V}, RVal H t v → RVal H' t v
  | .int _, _, h => h
  | .nm _, _, h => h
  | .op _ _ _, _, ⟨t, x, y, e1, e2, ha, hb⟩ => ⟨t, x, y, e1, e _ _ e2, RVal.mono e ha, RVal.mono e hb⟩
def look (kvs : List (Key × V)) (s : Str) : Int := match valV kvs (Sum.inr s) with
  | some (.int i) => i
  | _ => 0
def VT.ev (kvs : List (Key × V)) : VT → Int
  | .int i => i
  | .nm s => look kvs s
  | .op o a b => o.ev (a.ev kvs) (b.ev kvs)
def VT.wt : VT → Nat
  | .op _ a b => a.wt + b.wt
  | _ => 8
def Fine (kvs : List (Key × V)) : VT → Prop
  | .int i => i.natAbs < 256
  | .nm s => ∃ i : Int, valV kvs (Sum.inr s) = some (.int i) ∧ i.natAbs < 256
  | .op _ a b => Fine kvs a ∧ Fine kvs b
theorem VT.wt_pos : ∀ t : VT, 8 ≤ t.wt
  | .int _ => Nat.le_refl 8
  | .nm _ => Nat.le_refl 8
  | .op _ a b => by show 8 ≤ a.wt + b.wt; have := a.wt_pos; omega
theorem pow_add_le {a b x y : Nat} (ha : x < 2 ^ a) (hb : y < 2 ^ b) (h1 : 1 ≤ a) (h2 : 1 ≤ b) : x + y < 2 ^ (a + b) := by
  have ea : 2 ^ (a + b) = 2 ^ a * 2 ^ b := Nat.pow_add 2 a b
  have h3 : 2 ≤ 2 ^ a := by
    have := Nat.pow_le_pow_right (show 0 < 2 by decide) h1
    omega
  have h4 : 2 ≤ 2 ^ b := by
    have := Nat.pow_le_pow_right (show 0 < 2 by decide) h2
    omega
  generalize 2 ^ a = u at *
  generalize 2 ^ b = v at *
  rw [ea]
  have h5 : u + v ≤ u * v := by
    rcases Nat.le_total u v with h | h
    · have := Nat.mul_le_mul_right v h3
      omega
    · have := Nat.mul_le_mul_left u h4
      omega
  omega
theorem ev_lt {kvs : List (Key × V)} : ∀ {t : VT}, Fine kvs t → (t.ev kvs).natAbs < 2 ^ t.wt
  | .int i, h => h
  | .nm s, ⟨i, e, h⟩ => by
    show (look kvs s).natAbs < 2 ^ 8
    unfold look
    rw [e]
    exact h
  | .op o a b, ⟨ha, hb⟩ => by
    have h1 := ev_lt ha
    have h2 := ev_lt hb
    have p1 := a.wt_pos
    have p2 := b.wt_pos
    have h3 := pow_add_le h1 h2 (by omega) (by omega)
    show (o.ev (a.ev kvs) (b.ev kvs)).natAbs < 2 ^ (a.wt + b.wt)
    cases o with
    | add => show (a.ev kvs + b.ev kvs).natAbs < _; omega
    | sub => show (a.ev kvs - b.ev kvs).natAbs < _; omega
    | mul => exact wide_lt h1 h2
inductive Cp where
  | eq | lt | le
def Cp.tx : Cp → Str
  | .eq => Str.ofString "="
  | .lt => Str.ofString "<"
  | .le => Str.ofString "<="
def Cp.ev : Cp → Int → Int → Bool
  | .eq, a, b => decide (V.int a = V.int b)
  | .lt, a, b => decide (a < b)
  | .le, a, b => decide (a ≤ b)
inductive CT where
  | bl (b : Bool) | no (c : CT) | an (a b : CT) | or (a b : CT) | cp (o : Cp) (a b : VT)
def CT.ht : CT → Nat
  | .bl _ => 0
  | .no c => c.ht + 1
  | .an a b => max a.ht b.ht + 1
  | .or a b => max a.ht b.ht + 1
  | .cp _ _ _ => 0
def RCond (H : Hp) : CT → V → Prop
  | .bl b, v => v = .bl b
  | .no c, v => ∃ t x, v = .ref t ∧ H t = some (.tup [.str (Str.ofString "not"), x]) ∧ RCond H c x
  | .an a b, v => ∃ t x y, v = .ref t ∧ H t = some (.tup [.str (Str.ofString "and"), x, y]) ∧ RCond H a x ∧ RCond H b y
  | .or a b, v => ∃ t x y, v = .ref t ∧ H t = some (.tup [.str (Str.ofString "or"), x, y]) ∧ RCond H a x ∧ RCond H b y
  | .cp o a b, v => ∃ t x y, v = .ref t ∧ H t = some (.tup [.str o.tx, x, y]) ∧ RVal H a x ∧ RVal H b y
theorem RCond.mono {H H' : Hp} (e : Same H H') : ∀ {t : CT} {v : V}, RCond H t v → RCond H' t v
  | .bl _, _, h => h
  | .no _, _, ⟨t, x, e1, e2, ha⟩ => ⟨t, x, e1, e _ _ e2, RCond.mono e ha⟩
  | .an _ _, _, ⟨t, x, y, e1, e2, ha, hb⟩ => ⟨t, x, y, e1, e _ _ e2, RCond.mono e ha, RCond.mono e hb⟩
  | .or _ _, _, ⟨t, x, y, e1, e2, ha, hb⟩ => ⟨t, x, y, e1, e _ _ e2, RCond.mono e ha, RCond.mono e hb⟩
  | .cp _ _ _, _, ⟨t, x, y, e1, e2, ha, hb⟩ => ⟨t, x, y, e1, e _ _ e2, RVal.mono e ha, RVal.mono e hb⟩
def CT.ev (kvs : List (Key × V)) : CT → Bool
  | .bl b => b
  | .no c => !c.ev kvs
  | .an a b => a.ev kvs && b.ev kvs
  | .or a b => a.ev kvs || b.ev kvs
  | .cp o a b => o.ev (a.ev kvs) (b.ev kvs)
/-- every value in it is fine, of height below n and of weight at most m -/
def CFine (kvs : List (Key × V)) (n m : Nat) : CT → Prop
  | .bl _ => True
  | .no c => CFine kvs n m c
  | .an a b => CFine kvs n m a ∧ CFine kvs n m b
  | .or a b => CFine kvs n m a ∧ CFine kvs n m b
  | .cp _ a b => (Fine kvs a ∧ a.ht < n ∧ a.wt ≤ m) ∧ Fine kvs b ∧ b.ht < n ∧ b.wt ≤ m
/-! ### data: what stands in the heap, at any depth -/
mutual
theorem dp_mono {K : PySem.W.Frag} {H H' : Hp} (e : Same H H') : ∀ {v : V} {d : PyData}, Dp K H v d → Dp K H' v d
  | _, .none, .non => .non
  | _, .bool _, .bl b => .bl b
  | _, .int _, .int i => .int i
  | _, .str _, .str x => .str x
  | _, .list _, .lst h a => .lst (e.seq h) (dpAll_mono e a)
  | _, .tuple _, .tup h a => .tup (Same.seqT e h) (dpAll_mono e a)
theorem dpAll_mono {K : PySem.W.Frag} {H H' : Hp} (e : Same H H') : ∀ {vs : List V} {ds : List PyData}, DpAll K H vs ds → DpAll K H' vs ds
  | _, [], .nil => .nil
  | _, _ :: _, .cons h t => .cons (dp_mono e h) (dpAll_mono e t)
end
theorem dpa_len {K : PySem.W.Frag} {H : Hp} : ∀ {ds : List PyData} {vs : List V}, DpAll K H vs ds → vs.length = ds.length
  | [], _, .nil => rfl
  | _ :: _, _, .cons _ t => congrArg (· + 1) (dpa_len t)
theorem dpa_at {K : PySem.W.Frag} {H : Hp} : ∀ {ds : List PyData} {vs : List V}, DpAll K H vs ds → ∀ {i : Nat} {v : V}, vs[i]? = some v → ∃ d, ds[i]? = some d ∧ Dp K H v d
  | [], _, .nil, i, v, h => by simp at h
  | _ :: _, _, .cons a t, 0, v, h => by
    have := Option.some.inj h
    subst this
    exact ⟨_, rfl, a⟩
  | _ :: _, _, .cons a t, i + 1, v, h => dpa_at t (i := i) h
theorem dpa_at' {K : PySem.W.Frag} {H : Hp} : ∀ {ds : List PyData} {vs : List V}, DpAll K H vs ds → ∀ {i : Nat} {d : PyData}, ds[i]? = some d → ∃ v, vs[i]? = some v ∧ Dp K H v d
  | [], _, .nil, i, v, h => by simp at h
  | _ :: _, _, .cons a t, 0, v, h => by
    have := Option.some.inj h
    subst this
    exact ⟨_, rfl, a⟩
  | _ :: _, _, .cons a t, i + 1, v, h => dpa_at' t (i := i) h
theorem dpa_app {K : PySem.W.Frag} {H : Hp} : ∀ {ds es : List PyData} {vs us : List V}, DpAll K H vs ds → DpAll K H us es → DpAll K H (vs ++ us) (ds ++ es)
  | [], _, _, _, .nil, b => b
  | _ :: _, _, _, _, .cons a t, b => .cons a (dpa_app t b)
theorem dpa_strs {K : PySem.W.Frag} {H : Hp} : ∀ ss : List Str, DpAll K H (ss.map V.str) (ss.map PyData.str)
  | [] => .nil
  | s :: r => .cons (.str s) (dpa_strs r)
theorem dpa_ints {K : PySem.W.Frag} {H : Hp} : ∀ ss : List Int, DpAll K H (ss.map V.int) (ss.map PyData.int)
  | [] => .nil
  | s :: r => .cons (.int s) (dpa_ints r)
/-- a tuple of data -/
theorem dp_tup {K : PySem.W.Frag} {H : Hp} {v : V} {ds : List PyData} (h : Dp K H v (.tuple ds)) : ∃ a xs, v = .ref a ∧ SqT K H a xs ∧ DpAll K H xs ds := by
  cases h with
  | tup hs ha => exact ⟨_, _, rfl, hs, ha⟩
theorem dp_lst {K : PySem.W.Frag} {H : Hp} {v : V} {ds : List PyData} (h : Dp K H v (.list ds)) : ∃ a xs, v = .ref a ∧ SqL K H a xs ∧ DpAll K H xs ds := by
  cases h with
  | lst hs ha => exact ⟨_, _, rfl, hs, ha⟩
theorem dp_str {K : PySem.W.Frag} {H : Hp} {v : V} {s : Str} (h : Dp K H v (.str s)) : v = .str s := by cases h; rfl
theorem dp_int {K : PySem.W.Frag} {H : Hp} {v : V} {s : Int} (h : Dp K H v (.int s)) : v = .int s := by cases h; rfl
theorem dpa_cons {K : PySem.W.Frag} {H : Hp} {vs : List V} {d : PyData} {ds : List PyData} (h : DpAll K H vs (d :: ds)) : ∃ v r, vs = v :: r ∧ Dp K H v d ∧ DpAll K H r ds := by
  cases h with
  | cons a t => exact ⟨_, _, rfl, a, t⟩
theorem dpa_nil {K : PySem.W.Frag} {H : Hp} {vs : List V} (h : DpAll K H vs []) : vs = [] := by cases h; rfl
theorem dpa_strsE {K : PySem.W.Frag} {H : Hp} : ∀ {ss : List Str} {vs : List V}, DpAll K H vs (ss.map PyData.str) → vs = ss.map V.str
  | [], _, h => dpa_nil h
  | s :: r, _, h => by
    obtain ⟨v, q, rfl, a, t⟩ := dpa_cons h
    rw [dp_str a, dpa_strsE t]
    rfl
/-! ### data that can be shown and compared -/
mutual
def nice : PyData → Bool
  | .none | .bool _ => true
  | .int i => decide (i.natAbs < 10 ^ 7)
  | .str s => (s.cps.toList.all fun c => decide (c < 128)) && decide (s.length ≤ 20)
  | .list xs | .tuple xs => niceAll xs
  | .dict _ => false
def niceAll : List PyData → Bool
  | [] => true
  | x :: xs => nice x && niceAll xs
end
mutual
def cells : PyData → Nat
  | .list xs | .tuple xs => cellsAll xs + 1
  | .none | .bool _ | .int _ | .str _ | .dict _ => 1
def cellsAll : List PyData → Nat
  | [] => 0
  | x :: xs => cells x + cellsAll xs
end
mutual
theorem nice_lay : ∀ d : PyData, nice d = true → d.canLay0 = true
  | .none, _ => rfl
  | .bool _, _ => rfl
  | .int _, _ => rfl
  | .str s, h => by
    simp only [nice, Bool.and_eq_true, List.all_eq_true, decide_eq_true_eq] at h
    show (s.cps.all fun c => decide (c < 0x110000)) = true
    rw [← Array.all_toList, List.all_eq_true]
    intro c hc
    have := h.1 c hc
    exact decide_eq_true (by omega)
  | .list xs, h => by
    show PyData.canLayAll0 xs = true
    exact nice_layAll xs h
  | .tuple xs, h => by
    show PyData.canLayAll0 xs = true
    exact nice_layAll xs h
  | .dict _, h => nomatch h
theorem nice_layAll : ∀ xs : List PyData, niceAll xs = true → PyData.canLayAll0 xs = true
  | [], _ => rfl
  | x :: xs, h => by
    have h' : nice x = true ∧ niceAll xs = true := by simpa only [niceAll, Bool.and_eq_true] using h
    show (x.canLay0 && PyData.canLayAll0 xs) = true
    rw [nice_lay x h'.1, nice_layAll xs h'.2]
    rfl
end
mutual
theorem nice_short : ∀ d : PyData, nice d = true → d.leavesShort 8 = true ∧ d.showable = true
  | .none, _ => ⟨rfl, rfl⟩
  | .bool _, _ => ⟨rfl, rfl⟩
  | .int i, h => by
    have h1 : i.natAbs < 10 ^ 7 := by simpa only [nice, decide_eq_true_eq] using h
    refine ⟨?_, ?_⟩
    · show decide ((Str.ofString (toString i)).length ≤ 8) = true
      have := int_text_length_le10 (a := i) (k := 7) (by decide) h1
      refine decide_eq_true ?_
      rw [PySem.ofString_length]
      exact this
    · show decide (i.natAbs.log2 < 1920) = true
      refine decide_eq_true ?_
      have h2 : i.natAbs.log2 ≤ i.natAbs := Nat.log2_le_self _
      by_cases h0 : i.natAbs = 0
      · rw [h0]; decide
      · rw [Nat.log2_lt h0]
        exact Nat.lt_of_lt_of_le h1 (by decide +kernel)
  | .str s, h => by
    simp only [nice, Bool.and_eq_true, List.all_eq_true, decide_eq_true_eq] at h
    refine ⟨?_, rfl⟩
    show (s.cps.toList.all fun c => decide (c < 16 ^ 8)) = true
    rw [List.all_eq_true]
    intro c hc
    have := h.1 c hc
    exact decide_eq_true (Nat.lt_of_lt_of_le this (by decide))
  | .list xs, h => nice_shortAll xs h
  | .tuple xs, h => nice_shortAll xs h
  | .dict _, h => nomatch h
theorem nice_shortAll : ∀ xs : List PyData, niceAll xs = true → PyData.leavesShortAll 8 xs = true ∧ PyData.showableAll xs = true
  | [], _ => ⟨rfl, rfl⟩
  | x :: xs, h => by
    have h' : nice x = true ∧ niceAll xs = true := by simpa only [niceAll, Bool.and_eq_true] using h
    obtain ⟨a1, a2⟩ := nice_short x h'.1
    obtain ⟨b1, b2⟩ := nice_shortAll xs h'.2
    refine ⟨?_, ?_⟩
    · show (x.leavesShort 8 && PyData.leavesShortAll 8 xs) = true
      rw [a1, b1]; rfl
    · show (x.showable && PyData.showableAll xs) = true
      rw [a2, b2]; rfl
end
mutual
theorem nice_bulk : ∀ d : PyData, nice d = true → d.bulk + 1 ≤ 21 * cells d
  | .none, _ => by decide
  | .bool _, _ => by show 0 + 1 ≤ 21 * 1; decide
  | .int _, _ => by show 0 + 1 ≤ 21 * 1; decide
  | .str s, h => by
    simp only [nice, Bool.and_eq_true, List.all_eq_true, decide_eq_true_eq] at h
    have : s.cps.size ≤ 20 := h.2
    show s.cps.size + 1 ≤ 21 * 1
    omega
  | .list xs, h => by
    have := nice_bulkAll xs h
    show PyData.bulkAll xs + 1 ≤ 21 * (cellsAll xs + 1)
    omega
  | .tuple xs, h => by
    have := nice_bulkAll xs h
    show PyData.bulkAll xs + 1 ≤ 21 * (cellsAll xs + 1)
    omega
  | .dict _, h => nomatch h
theorem nice_bulkAll : ∀ xs : List PyData, niceAll xs = true → PyData.bulkAll xs ≤ 21 * cellsAll xs
  | [], _ => by decide
  | x :: xs, h => by
    have h' : nice x = true ∧ niceAll xs = true := by simpa only [niceAll, Bool.and_eq_true] using h
    have h1 := nice_bulk x h'.1
    have h2 := nice_bulkAll xs h'.2
    show x.bulk + 1 + PyData.bulkAll xs ≤ 21 * (cells x + cellsAll xs)
    omega
end
structure NcD (d : PyData) (c m : Nat) : Prop where
  ni : nice d = true
  ce : cells d ≤ c
  de : d.depth ≤ m
structure NcL (ds : List PyData) (c m : Nat) : Prop where
  ni : niceAll ds = true
  ce : cellsAll ds ≤ c
  de : PyData.depthAll ds ≤ m
theorem NcD.mono {d : PyData} {c m c' m' : Nat} (h : NcD d c m) (h1 : c ≤ c') (h2 : m ≤ m') : NcD d c' m' := ⟨h.ni, Nat.le_trans h.ce h1, Nat.le_trans h.de h2⟩
theorem NcL.mono {d : List PyData} {c m c' m' : Nat} (h : NcL d c m) (h1 : c ≤ c') (h2 : m ≤ m') : NcL d c' m' := ⟨h.ni, Nat.le_trans h.ce h1, Nat.le_trans h.de h2⟩
theorem NcL.nil {c m : Nat} : NcL [] c m := ⟨rfl, Nat.zero_le _, Nat.zero_le _⟩
theorem NcL.cons {d : PyData} {ds : List PyData} {c1 c2 m : Nat} (h : NcD d c1 m) (t : NcL ds c2 m) : NcL (d :: ds) (c1 + c2) m := by
  have h1 := h.ce
  have h2 := t.ce
  have h3 := h.de
  have h4 := t.de
  refine ⟨?_, ?_, ?_⟩
  · show (nice d && niceAll ds) = true
    rw [h.ni, t.ni]; rfl
  · show cells d + cellsAll ds ≤ c1 + c2
    omega
  · show max d.depth (PyData.depthAll ds) ≤ m
    omega
theorem NcL.tup {ds : List PyData} {c m : Nat} (h : NcL ds c m) : NcD (.tuple ds) (c + 1) (m + 1) := ⟨h.ni, Nat.succ_le_succ h.ce, Nat.succ_le_succ h.de⟩
theorem NcL.lst {ds : List PyData} {c m : Nat} (h : NcL ds c m) : NcD (.list ds) (c + 1) (m + 1) := ⟨h.ni, Nat.succ_le_succ h.ce, Nat.succ_le_succ h.de⟩
theorem NcD.str {s : Str} {m : Nat} (h : nice (.str s) = true) : NcD (.str s) 1 m := ⟨h, Nat.le_refl _, Nat.zero_le _⟩
theorem NcD.int {i : Int} {m : Nat} (h : i.natAbs < 10 ^ 7) : NcD (.int i) 1 m := ⟨decide_eq_true h, Nat.le_refl _, Nat.zero_le _⟩
theorem NcD.shaped {d : PyData} {c m : Nat} (h : NcD d c m) (hm : m ≤ 64) : SeqAt.shaped d = true := by
  show (d.canLay0 && decide (d.depth ≤ 64)) = true
  have h1 := h.de
  rw [nice_lay d h.ni, decide_eq_true (by omega)]
  rfl
theorem NcD.eqv {d : PyData} {c m : Nat} (h : NcD d c m) : PyData.eqv d d = true := SeqAt.eqv_refl d (nice_lay d h.ni)
structure Shw (d : PyData) : Prop where
  sh : d.showable = true
  nd : d.hasDict = false
  de : d.depth ≤ 60
  ln : d.shown.length ≤ sizeLine
theorem NcD.shw {d : PyData} {c m : Nat} (h : NcD d c m) (hc : c ≤ 40000) (hm : m ≤ 60) : Shw d := by
  have h1 := nice_short d h.ni
  have h2 := nice_bulk d h.ni
  have h3 := h.de
  have h4 := h.ce
  refine ⟨h1.2, PyData.hasDict_of_canLay d (nice_lay d h.ni), by omega, PyData.shown_fits_bulk (by decide) (by decide) h1.1 ?_⟩
  rw [show (2 : Nat) ^ 20 = 1048576 from rfl]
  omega
/-! ### repr of data, and a law's call from outside all frames (there no guard is up) -/
section
variable {X : Cx}
def rRepr (K : PySem.W.Frag) : List V → Hp → VK → Prop := fun xs H Q => ∃ (a : Addr) (d : PyData), xs = [.ref a] ∧ Dp K H (.ref a) d ∧ d.showable = true ∧ d.hasDict = false ∧ d.depth ≤ 60 ∧ d.shown.length ≤ sizeLine ∧ Q (.str d.shown) H
theorem cRepr (K : PySem.W.Frag) (hg : X.A.guards = some []) (hu : X.A.units + 64 < cLine) (hK : X.K = K := by rfl) : CallR X (.builtin "repr") (rRepr K) := by
  subst hK
  rintro pins s σ H xs us Q I r ⟨a, d, rfl, hd, hs, hn, hp, hz, q⟩
  obtain ⟨u, rfl, ru⟩ := vals1 r
  cases ru
  obtain ⟨as, hr⟩ := Dp.reads I d _ _ hd rfl
  exact PySem.repr_of_reads' hr hs (fun z => by rw [hn] at z; cases z) hg (by omega) (fun _ _ e => e) (fun h' t tk kp => ⟨.str d.shown, H, I.kept kp, ⟨t, rfl⟩, q⟩) hz
end
/-- the law's def keeps sp where it is called with the script, from outside -/
def TopOk (P : Program) (w : World) (K : PySem.W.Frag) (mg : Str → Option Value) (base : Heap) (f : Addr) (sp : Sp) : Prop :=
  ∀ (s : Shared) (H : Hp) (a : Addr) (Q : VK), Env0 P w K mg base callerA [] s H → sp [.ref a] H Q E0 → codeAny (model P w) callerA (.call (.ref f) ⟨[.ref a], []⟩) (CR CX0 [] P w H s Q E0) s
theorem top_ok {P : Program} {w : World} {K : PySem.W.Frag} {mg : Str → Option Value} {base : Heap} {x : Str} {st : Stmt} {f : Addr} {fd : FuncData} {N : List Str} {k : Nat} {sp : Sp} (F : Fun K x x st f fd) (S : FnScope N ["script"] (defScope st)) (hroom : Room (k + 1) callerA)
    (bind : ∀ (s : Shared) (v : Value), BindsTo s fd ⟨[v], []⟩ [("script", v)])
    (body : ∀ (cdv : Value) (s : Shared) (H : Hp) (a : Addr) (Q : VK), Room k (callerA.deeper (envOfC x (defScope st) s.heap.objs.size f cdv)) → sp [.ref a] H Q E0 →
      ∃ t, PSs (cxOf CX0 P w K mg base N x (defScope st) f cdv callerA [] s H E0).nox (defBody st) t ∧ t { nx := fun _ H' => Q .non H', rt := Q } (start N [.ref a]) H) : TopOk P w K mg base f sp := by
  obtain ⟨c1, c2, c3, c4, c5, c6, cd, c8, c9, rfl, look, code⟩ := F.ex
  intro s H a Q env want
  have inS : K.In s.heap := PySem.W.Frag.In.keeps env.mod.kin (fun b o z => (env.bs b o z).1)
  have room := hroom.deeper (envOfC x (defScope st) s.heap.objs.size f cd)
  obtain ⟨t, good, read⟩ := body cd s H a Q room want
  refine codeAny_call_function (by decide) (inS f _ look) rfl S.co S.gen rfl (PySem.W.codeRec_of inS code) (bind s _ _ _ _ _ ?_)
  have names : ∀ y ∈ [(("script" : Str), Value.ref a)], (defScope st).names.lookup y.1 = some .local ∨ ((defScope st).names.lookup y.1 = some .cell ∧ ((cellsFrom (s.heap.objs.size + 1) (defScope st).names []).lookup y.1).isSome = true) := by
    intro y hy
    rw [List.mem_singleton.mp hy]
    exact (S.par "script" List.mem_cons_self).imp id fun z => ⟨z, PySem.W.cellsFrom_some _ _ _ (.inl z)⟩
  refine wpAny_newFunctionEnv_cells S.kind names ?_
  rintro _ rfl s1 made
  have few : s.heap.NoLimit := Heap.NoLimit.keeps env.mod.nolimit (fun b o z => (env.bs b o z).1)
  refine ⟨Heap.NoLimit.keeps few made.toInCall.keep, codeAny_func ?_⟩
  have inv := inv_start (CX := CX0) (vs := [V.ref a]) (us := [Value.ref a]) (E := E0) S hroom.hd env rfl (.cons rfl .nil) made
  refine wpAny_mono (good.nox.run [] s1 _ H _ inv read) ?_ (fun _ _ z => z)
  intro fl s2 out
  cases fl with
  | brk => exact False.elim out.choose_spec.choose_spec.2
  | cont => exact False.elim out.choose_spec.choose_spec.2
  | next =>
    obtain ⟨σ2, H2, inv2, q2⟩ := out
    exact ⟨.non, H2, inv2.os, inv2.bare, inv2.base, inv2.hok, rfl, q2⟩
  | ret u =>
    obtain ⟨v, σ2, H2, inv2, rel, q2⟩ := out
    exact ⟨v, H2, inv2.os, inv2.bare, inv2.base, inv2.hok, rel, q2⟩
/-- what the object of the script is taken for: the locked list, unless it is an object of the module -/
def hpOf (K : PySem.W.Frag) (a : Addr) (o : Obj) (ns : List Int) : Hp := fun b => if b = a ∧ K.lookup a = none then some (.frz o (.lst (ns.map V.int))) else none
theorem hp_none {K : PySem.W.Frag} {a b : Addr} {o : Obj} {ns : List Int} (h : b ≠ a) : hpOf K a o ns b = none := if_neg fun z => h z.1
theorem hp_ne {K : PySem.W.Frag} {a b : Addr} {o : Obj} {ns : List Int} {u : HO} (h : hpOf K a o ns b = some u) : b = a ∧ K.lookup a = none ∧ u = .frz o (.lst (ns.map V.int)) := by
  unfold hpOf at h
  split at h
  · rename_i c
    exact ⟨c.1, c.2, (Option.some.inj h).symm⟩
  · cases h
theorem ints_vals : ∀ {vs : List Value} {ns : List Int}, IntsAre vs ns → Vals (ns.map V.int) vs := fun h => vals_ints h
theorem top_call {P : Program} {w : World} {K : PySem.W.Frag} {mg mb : Str → Option Value} {fa a : Addr} {sp : Sp} {s1 : Shared} {vs : List Value} {ns : List Int} (KX : K.In s1.heap) (hns : s1.heap.Ns mainGlobals mg) (hb : s1.heap.Ns builtinsNs mb) (hbb : ∀ x : Str, x ≠ "__name__" → mb x = bootBuiltins x)
    (hlim : s1.heap.NoLimit) (hg : s1.gens = #[]) (ha : s1.heap.get? a = some { cls := .type "list", data := .seq vs.toArray }) (hi : IntsAre vs ns) (hl : ns.length ≤ sizeLine) (F : ∀ base : Heap, K.In base → base.Ns mainGlobals mg → TopOk P w K mg base fa sp)
    (hsp : ∀ H : Hp, SqL K H a (ns.map V.int) → sp [.ref a] H (fun v _ => v = .bl true) E0) :
    codeAny (model P w) callerA (.call (.ref fa) ⟨[.ref a], []⟩) (fun r s' => r = .ok (.ret (.bool true)) ∧ OldK s1.heap s'.heap ∧ s'.os = s1.os ∧ AllBare s'.gens) s1 := by
  have rel := vals_ints hi
  have size := hi.length
  generalize hob : ({ cls := .type "list", data := .seq vs.toArray } : Obj) = ob at ha
  generalize hH : hpOf K a ob ns = H
  have known : ∀ {b : Addr} {u : HO}, H b = some u → b = a ∧ K.lookup a = none ∧ u = .frz ob (.lst (ns.map V.int)) := fun z => hp_ne (hH ▸ z)
  have free : ∀ {b : Addr}, b ≠ a → H b = none := fun z => hH ▸ hp_none z
  -- what is a dict, or the module's own, is not hidden
  have dictFree : ∀ {b : Addr} {o : Obj} {es : Array DictEntry} {ep : Nat}, s1.heap.get? b = some o → o.data = .dict es ep → H b = none := by
    intro b o es ep e d
    refine free fun z => ?_
    rw [z, ha] at e
    cases e
    rw [← hob] at d
    cases d
  have kFree : ∀ {b : Addr} {o : Obj}, K.lookup b = some o → H b = none := by
    intro b o e
    cases h : H b with
    | none => rfl
    | some u =>
      obtain ⟨z1, z2, _⟩ := known h
      rw [z1, z2] at e
      cases e
  have seen : ∀ {b : Addr} {o : Obj}, s1.heap.get? b = some o → H b = none → (hidT s1.heap H).get? b = some o := fun e n => hidT_get e n
  have kIn : K.In (hidT s1.heap H) := fun b o e => seen (KX b o e) (kFree e)
  have spaces : ∀ {b : Addr} {m : Str → Option Value}, s1.heap.Ns b m → (hidT s1.heap H).Ns b m := by
    rintro b m ⟨o, es, ep, e, d, r⟩
    exact ⟨o, es, ep, seen e (dictFree e d), d, r⟩
  have limit : (hidT s1.heap H).NoLimit := by
    obtain ⟨mc, l1, l2⟩ := hlim
    exact ⟨mc, spaces l1, l2⟩
  have ok : HOk P w H s1.heap := by
    intro b u z
    obtain ⟨rfl, _, rfl⟩ := known z
    subst hob
    exact ⟨ha, by rw [List.length_map]; exact hl, vs, _, rel, ha⟩
  have script : SqL K H a (ns.map V.int) := by
    cases h : K.lookup a with
    | none => exact .inl (.inr ⟨ob, by rw [← hH]; exact if_pos ⟨rfl, h⟩⟩)
    | some o =>
      have e := KX a o h
      rw [ha] at e
      cases e
      subst hob
      exact .inr ⟨_, vs.toArray, _, h, rfl, rfl, rfl, by rw [List.size_toArray, size]; exact hl, by rw [List.toList_toArray]; exact rel⟩
  have env : Env0 P w K mg (hidT s1.heap H) callerA [] s1 H := {
    frames := rfl
    mod := ⟨kIn, spaces hns, ⟨mb, spaces hb, hbb⟩, limit⟩
    bs := fun _ _ z => of_hidT z
    bsz := Nat.le_of_eq (hidT_size _ _)
    funs := trivial
    frf := fun _ z => nomatch z
    hok := ok
    bare := .of_eq hg }
  refine codeAny_mono (F _ kIn (spaces hns) s1 H a _ env (hsp H script)) ?_
  intro r s2 out
  match r, out with
  | .error _, out => exact False.elim out
  | .ok .next, out => exact False.elim out
  | .ok .brk, out => exact False.elim out
  | .ok .cont, out => exact False.elim out
  | .ok (.ret u), ⟨v, H2, os, bare, un, ok2, ru, qv⟩ =>
    have qv' : v = .bl true := qv
    subst qv'
    have ru' : u = Value.bool true := ru
    subst ru'
    refine ⟨rfl, OldK.of_keep ?_, os, bare⟩
    intro b o e
    cases h : H b with
    | none => exact un.keep b o e h (fun z => nomatch z) (fun z => nomatch z)
    | some x =>
      obtain ⟨rfl, _, rfl⟩ := known h
      have later := (ok2 b _ (un.frzs b ob _ h)).1
      rw [ha] at e
      cases e
      exact later
theorem walk_top {l : PySem.W.OpenLaw} {n : Nat} {q : Program} {loose : List Str} {XP : (Str → Option Value) → Heap → Prop} {YP : World → Heap → Prop} {d : DefRec} {K : Params → PySem.W.Frag} {sp : World → Sp} (hn : l.most = some n) (hn2 : n ≤ sizeLine) (hdf : d.params.defaults = [])
    (hY : ∀ (w : World) (h : Heap), YP w h → (K w.params).In h)
    (F : ∀ (w : World) (mg : Str → Option Value) (fa : Addr) (h : Heap), (K w.params).In h → h.Ns mainGlobals mg → mg d.name = some (.ref fa) → ∀ base : Heap, (K w.params).In base → base.Ns mainGlobals mg → TopOk l.prog w (K w.params) mg base fa (sp w))
    (hsp : ∀ (w : World) (H : Hp) (a : Addr) (ns : List Int), ns.length ≤ n → SqL (K w.params) H a (ns.map V.int) → sp w [.ref a] H (fun v _ => v = .bl true) E0) :
    PySem.W.WalkO q loose XP YP l.row.toRowW d [] (fun f vs => PySem.call f vs) := by
  refine Att.attach_call hn hdf ?_
  intro w s0 s1 mg mb fa o pm cd doc a vs ns G Y ho hd hcd hmg hobj hints hlen hg
  exact top_call (hY w _ Y) G.T.g G.T.b G.T.builtins G.T.nolimit hg hobj hints (Nat.le_trans hlen hn2) (F w mg fa _ (hY w _ Y) G.T.g hmg) fun H hS => hsp w H a ns hlen hS
theorem orM {A B : TT} {t u r : TS} {D : Ends} {σ : L2.St} {H : Hp} (h : Ans A σ H false) (hb : tSeq (tIfS B t u) r D σ H) : tSeq (tIfS (tOr A B) t u) r D σ H := h _ (iteF hb)
theorem neM (s : Str) : (!decide (V.str s = V.str s)) = false := by
  rw [decide_eq_true rfl]
  rfl
theorem nbM (b : Bool) : (!decide (V.bl b = V.bl b)) = false := by
  rw [decide_eq_true rfl]
  rfl
theorem nvM {d : PyData} (e : PyData.eqv d d = true) : (!PyData.eqv d d) = false := by
  rw [e]
  rfl
theorem ansF {t : TT} {σ : L2.St} {H : Hp} {Q : Bool → Hp → Prop} (h : Ans t σ H false) (q : Q false H) : t σ H Q := h _ q
theorem orA {A B : TT} {σ : L2.St} {H : Hp} {Q : Bool → Hp → Prop} (h : Ans A σ H false) (q : B σ H Q) : tOr A B σ H Q := h _ (iteF q)
/-! ### situations -/
/-- xs[i] read before it is stored anew -/
def rGetL (K : PySem.W.Frag) : R2 := fun x y H Q => ∃ p xs i v, x = .ref p ∧ y = .int i ∧ 0 ≤ i ∧ SqL K H p xs ∧ atI xs i = some v ∧ Q v H
theorem get_list {X : Cx} : PGet X (rGetL X.K) := by
  intro pins s σ H x y v u Q I rx ry h
  obtain ⟨p, xs, i, z, rfl, rfl, h0, hq, he, q⟩ := h
  cases rx
  obtain ⟨t, rfl⟩ := ry
  obtain ⟨its, r, pl, hz⟩ := I.list hq
  obtain ⟨j, h1, h2, h3, h4, h5⟩ := atI_get he
  obtain ⟨w, ew, rw'⟩ := r.get h2
  have hl := r.length
  have hn := line63
  have hj : i.toNat = j := by
    rw [seqIndex_of h0 h5] at h1
    exact Option.some.inj h1
  exact wpAny_getItem_list pl.isList h0 (by omega) (by rw [hj]; simpa using ew) ⟨z, H, I, rw', q⟩
theorem getL {X : Cx} (K : PySem.W.Frag) (h : X.K = K := by rfl) : PGet X (rGetL K) := h ▸ get_list
/-- a situation: a pair of a number and a list of numbers -/
def Sit (K : PySem.W.Frag) (H : Hp) (v : V) (s : Int) (ns : List Int) : Prop := ∃ a ca, v = .ref a ∧ SqT K H a [.int s, .ref ca] ∧ SqL K H ca (ns.map V.int)
theorem Same.sit {K : PySem.W.Frag} {H H' : Hp} (e : Same H H') {v : V} {s : Int} {ns : List Int} (h : Sit K H v s ns) : Sit K H' v s ns := by
  obtain ⟨a, ca, e1, h1, h2⟩ := h
  exact ⟨a, ca, e1, Same.seqT e h1, e.seq h2⟩
def sitD (s : Int) (ns : List Int) : PyData := .tuple [.int s, .list (ns.map PyData.int)]
theorem sit_dp {K : PySem.W.Frag} {H : Hp} {v : V} {s : Int} {ns : List Int} (h : Sit K H v s ns) : Dp K H v (sitD s ns) := by
  obtain ⟨a, ca, rfl, h1, h2⟩ := h
  exact .tup h1 (.cons (.int _) (.cons (.lst h2 (dpa_ints ns)) .nil))
theorem dpa_intsE {K : PySem.W.Frag} {H : Hp} : ∀ {ns : List Int} {vs : List V}, DpAll K H vs (ns.map PyData.int) → vs = ns.map V.int
  | [], _, h => dpa_nil h
  | n :: ns, vs, h => by
    obtain ⟨v, r, rfl, h1, h2⟩ := dpa_cons h
    rw [dp_int h1, dpa_intsE h2]
    rfl
theorem dp_sit {K : PySem.W.Frag} {H : Hp} {v : V} {s : Int} {ns : List Int} (h : Dp K H v (sitD s ns)) : Sit K H v s ns := by
  obtain ⟨a, xs, rfl, h1, h2⟩ := dp_tup h
  obtain ⟨v1, r1, rfl, d1, h2⟩ := dpa_cons h2
  obtain ⟨v2, r2, rfl, d2, h2⟩ := dpa_cons h2
  obtain rfl := dpa_nil h2
  obtain ⟨ca, cxs, rfl, h3, h4⟩ := dp_lst d2
  rw [dp_int d1] at h1
  rw [dpa_intsE h4] at h3
  exact ⟨a, ca, rfl, h1, h3⟩
/-- at least as many everywhere -/
def geAll : List Int → List Int → Bool
  | m :: ms, n :: ns => decide (n ≤ m) && geAll ms ns
  | _, _ => true
theorem geAll_refl : ∀ ms : List Int, geAll ms ms = true
  | [] => rfl
  | m :: ms => by
    show (decide (m ≤ m) && geAll ms ms) = true
    rw [decide_eq_true (Int.le_refl m), geAll_refl ms]
    rfl
theorem geAll_take {ms ns : List Int} {m n : Int} : ∀ {i : Nat}, ms[i]? = some m → ns[i]? = some n → geAll (ms.take (i + 1)) (ns.take (i + 1)) = (geAll (ms.take i) (ns.take i) && decide (n ≤ m)) := by
  induction ms generalizing ns with
  | nil => intro i h; simp at h
  | cons a ms ih =>
    intro i h1 h2
    cases ns with
    | nil => simp at h2
    | cons b ns =>
      cases i with
      | zero =>
        cases h1
        cases h2
        show (decide (n ≤ m) && geAll (ms.take 0) (ns.take 0)) = (true && _)
        rw [List.take_zero, List.take_zero]
        show (decide (n ≤ m) && true) = _
        rw [Bool.and_true, Bool.true_and]
      | succ i =>
        show (decide (b ≤ a) && geAll (ms.take (i + 1)) (ns.take (i + 1))) = ((decide (b ≤ a) && geAll (ms.take i) (ns.take i)) && decide (n ≤ m))
        rw [ih h1 h2, Bool.and_assoc]
theorem geAll_false {ms ns : List Int} : ∀ {i : Nat}, geAll (ms.take i) (ns.take i) = false → geAll ms ns = false := by
  induction ms generalizing ns with
  | nil => intro i h; rw [List.take_nil] at h; cases h
  | cons a ms ih =>
    intro i h
    cases ns with
    | nil => rw [List.take_nil] at h; cases i <;> cases h
    | cons b ns =>
      cases i with
      | zero => cases h
      | succ i =>
        have h' : (decide (b ≤ a) && geAll (ms.take i) (ns.take i)) = false := h
        show (decide (b ≤ a) && geAll ms ns) = false
        cases hb : decide (b ≤ a) with
        | false => rfl
        | true =>
          rw [hb, Bool.true_and] at h'
          rw [ih h']
          rfl
/-- the first covers the second -/
def covB (s : Int) (ms : List Int) (t : Int) (ns : List Int) : Bool := decide (s = t) && geAll ms ns
theorem covB_refl (s : Int) (ms : List Int) : covB s ms s ms = true := by
  unfold covB
  rw [decide_eq_true (show s = s from rfl), geAll_refl]
  rfl
theorem ixN_nat {n j : Nat} (hj : j < n) : ixN n (j : Int) = some j := by
  unfold ixN
  rw [if_pos (by omega), if_pos (by omega)]
  simp
theorem gd {ds : List Int} {i : Nat} (h : i < ds.length) : ds[i]? = some (ds.getD i 0) := by
  rw [List.getD_eq_getElem?_getD, List.getElem?_eq_getElem h]
  rfl
theorem gd_mem {ds : List Int} {i : Nat} (h : i < ds.length) : ds.getD i 0 ∈ ds := List.mem_of_getElem? (gd h)
theorem at_gd {ds : List Int} {i : Int} {j : Nat} (e : i = (j : Int)) (h : j < ds.length) : atI (ds.map V.int) i = some (.int (ds.getD j 0)) := by
  rw [e]
  exact atI_nat (get_map (gd h))
theorem mod_in (z : Int) {m : Int} (h : 0 < m) : 0 ≤ z % m ∧ z % m < m := ⟨Int.emod_nonneg _ (by omega), Int.emod_lt_of_pos _ h⟩
/-- the heap without B -/
def Ho (B : Addr) (H : Hp) : Hp := fun x => if x = B then none else H x
theorem ho_out {B : Addr} {H : Hp} : Same (Ho B H) H := fun b x e => by
  unfold Ho at e
  split at e
  · cases e
  · exact e
theorem ho_same {B : Addr} {H H' : Hp} (s : Same H H') : Same (Ho B H) (Ho B H') := fun b x e => by
  unfold Ho at e ⊢
  split at e
  · cases e
  · rename_i h; rw [if_neg h]; exact s _ _ e
theorem ho_mut {B : Addr} {H : Hp} {u : HO} : Same (Ho B H) (Ho B (upd H B u)) := fun b x e => by
  unfold Ho at e ⊢
  split at e
  · cases e
  · rename_i h; rw [if_neg h, upd_ne h]; exact e
theorem ho_first {B : Addr} {H : Hp} {u : HO} (nB : H B = none) : Same H (Ho B (upd H B u)) := fun b x e => by
  have h : b ≠ B := ne_of_none e nB
  show (if b = B then none else upd H B u b) = _
  rw [if_neg h, upd_ne h]
  exact e
theorem dp_newT {K : PySem.W.Frag} {H : Hp} {p : Addr} {xs : List V} {ds : List PyData} (np : H p = none) (h : DpAll K H xs ds) : Dp K (upd H p (.tup xs)) (.ref p) (.tuple ds) := .tup (st upd_same) (dpAll_mono (same_new np) h)
theorem dp_newL {K : PySem.W.Frag} {H : Hp} {p : Addr} {xs : List V} {ds : List PyData} (np : H p = none) (h : DpAll K H xs ds) : Dp K (upd H p (.lst xs)) (.ref p) (.list ds) := .lst (sq upd_same) (dpAll_mono (same_new np) h)
theorem dpo_newT {K : PySem.W.Frag} {H : Hp} {B p : Addr} {o : HO} {xs : List V} {ds : List PyData} (eB : H B = some o) (np : H p = none) (h : DpAll K (Ho B H) xs ds) : Dp K (Ho B (upd H p (.tup xs))) (.ref p) (.tuple ds) := by
  have hne : p ≠ B := fun e => by rw [e, eB] at np; cases np
  refine .tup (st ?_) (dpAll_mono (ho_same (same_new np)) h)
  show (if p = B then none else upd H p (.tup xs) p) = _
  rw [if_neg hne]
  exact upd_same
theorem dpo_newL {K : PySem.W.Frag} {H : Hp} {B p : Addr} {o : HO} {xs : List V} {ds : List PyData} (eB : H B = some o) (np : H p = none) (h : DpAll K (Ho B H) xs ds) : Dp K (Ho B (upd H p (.lst xs))) (.ref p) (.list ds) := by
  have hne : p ≠ B := fun e => by rw [e, eB] at np; cases np
  refine .lst (sq ?_) (dpAll_mono (ho_same (same_new np)) h)
  show (if p = B then none else upd H p (.lst xs) p) = _
  rw [if_neg hne]
  exact upd_same
section
variable {P : Program} {w : World} {K : PySem.W.Frag} {mg : Str → Option Value} {base : Heap}
abbrev s_law_cell : Stmt := topS 13
theorem sc_law_cell : FnScope ["script", "k"] ["script", "k"] (defScope s_law_cell) := ⟨rfl, rfl, rfl, by decide +kernel, rfl, by decide +kernel, by decide +kernel⟩
-- _law_cell slots: script=0 k=1 globals: len int
def spCellA (K : PySem.W.Frag) : Sp := fun vs H Q _ => ∃ (a : Addr) (ns : List Int) (k : Nat), vs = [.ref a, .int (k : Int)] ∧ SqL K H a (ns.map V.int) ∧ ∀ z : Int, Q (.int z) H
theorem fd_law_cell {f : Addr} {fd : FuncData} (F : Fun K "_law_cell" "_law_cell" s_law_cell f fd) (m : mg "_law_cell" = some (.ref f)) (B : Bt mg) : Fd P w K mg base "_law_cell" ["script", "k"] 1 (spCellA K) := by
  refine ⟨f, fd, F.ok sc_law_cell (fun vs H Q E h => ?_) (fun cdv A outer s H vs Q E hr h => ?_), m, F.kp, F.binds (ps := ["script", "k"]) fun _ _ _ _ _ _ us hl => match us, hl with | [_, _], _ => rfl⟩
  · obtain ⟨a, ns, k, rfl, _⟩ := h
    rfl
  obtain ⟨a, ns, k, rfl, hs, q⟩ := h
  refine ⟨_, (pss_cons (ps_if (pt_cmpR op_lt (pv 1) (pe_callB (cLen K) (by rfl) B.len PySem.boot_len (pa_cons (pv 0) pa_nil)) (nomark _))
 (pss_one (ps_ret (pe_callTy call_int1 (by rfl) B.int (by decide +kernel) (pa_cons (pe_ix (ixQ K) (pv 0) (pv 1) (fun _ _ => rfl)) pa_nil))))
 pss_nil)
 (pss_one (ps_ret pe_int))), ?_⟩
  refine ⟨_, rfl, _, rfl, a, _, rfl, .inl hs, _, _, rfl, rfl, _, rfl, ite2 (fun e => ?_) (fun e => ?_)⟩
  · have e1 := of_decide_eq_true e
    rw [List.length_map] at e1
    have e2 : k < ns.length := by omega
    refine ⟨_, rfl, _, rfl, .inl ⟨a, _, _, _, rfl, rfl, hs, atI_nat (get_map (List.getElem?_eq_getElem e2)), .inl ⟨_, rfl, q _⟩⟩⟩
  · exact q _
end
section
variable {P : Program} {w : World} {K : PySem.W.Frag} {mg : Str → Option Value} {base : Heap}
abbrev s_law_draws : Stmt := topS 14
theorem sc_law_draws : FnScope ["cell", "limits", "found", "rest", "state", "free", "limit"] ["cell", "limits"] (defScope s_law_draws) := ⟨rfl, rfl, rfl, by decide +kernel, rfl, by decide +kernel, by decide +kernel⟩
-- _law_draws slots: cell=0 limits=1 found=2 rest=3 state=4 free=5 limit=6 globals: abs int
def spDraws (K : PySem.W.Frag) : Sp := fun vs H Q _ => ∃ (a : Addr) (c : Int) (ms : List Int), vs = [.int c, .ref a] ∧ SqL K H a (ms.map V.int) ∧ (∀ m ∈ ms, 0 < m ∧ m < 1073741824) ∧ ms.length ≤ 1000 ∧
  ∀ H' p ds, Same H H' → H p = none → H' p = some (.lst (ds.map V.int)) → DOk ds ms → Q (.ref p) H'
/-- the loop's word -/
def DrI (H : Hp) (a o : Addr) (c : Int) (fr : Bool) (ms : List Int) (i : Nat) (σ' : L2.St) (H' : Hp) : Prop := ∃ (r s0 : Int) (y : Option V) (ds : List Int), σ' = [some (.int c), some (.ref a), some (.ref o), some (.int r), some (.int s0), some (.bl fr), y] ∧
    0 ≤ s0 ∧ s0 < 2147483647 ∧ Same H H' ∧ H' o = some (.lst (ds.map V.int)) ∧ DOk ds (ms.take i)
theorem fd_law_draws {f : Addr} {fd : FuncData} (F : Fun K "_law_draws" "_law_draws" s_law_draws f fd) (m : mg "_law_draws" = some (.ref f)) (B : Bt mg) : Fd P w K mg base "_law_draws" ["cell", "limits"] 1 (spDraws K) := by
  refine ⟨f, fd, F.ok sc_law_draws (fun vs H Q E h => ?_) (fun cdv A outer s H vs Q E hr h => ?_), m, F.kp, F.binds (ps := ["cell", "limits"]) fun _ _ _ _ _ _ us hl => match us, hl with | [_, _], _ => rfl⟩
  · obtain ⟨a, c, ms, rfl, _⟩ := h
    rfl
  obtain ⟨a, c, ms, rfl, hs, hm, hl, q⟩ := h
  refine ⟨_, (pss_cons (ps_set (i := 2) sc_law_draws.nd rfl (Or.inl rfl) (pe_lst pa_nil))
 (pss_cons (ps_set (i := 3) sc_law_draws.nd rfl (Or.inl rfl) (pe_callB call_abs (by rfl) B.abs (by decide +kernel) (pa_cons (pe_callTy call_int1 (by rfl) B.int (by decide +kernel) (pa_cons (pv 0) pa_nil)) pa_nil)))
 (pss_cons (ps_set (i := 4) sc_law_draws.nd rfl (Or.inl rfl) (pe_op op_mod (pe_callTy call_int1 (by rfl) B.int (by decide +kernel) (pa_cons (pv 3) pa_nil)) pe_int))
 (C8.pss_cut (ps_set (i := 5) sc_law_draws.nd rfl (Or.inl rfl) (pe_or (pe_cmpR op_lt (pv 0) pe_int (nomark _)) (pe_one (pe_cmpR op_ge (pv 0) (pe_op op_pow pe_int pe_int) (nomark _)))))
 (pss_cons (ps_for PassesOwn.never rfl (piL K (pv 1)) (pg_name (i := 6) sc_law_draws.nd rfl (Or.inl rfl))
 (pss_one (ps_if (PW.pt (pw_and (pt_val (pv 5)) (pw_and1 (pt_cmpR op_gt (pv 3) pe_int (nomark _)))))
 (pss_cons (ps_expr (peBm K PySem.F.plainAttrs_list PySem.F.slot_list_append PySem.F.type_list_append mt_append (pv 2) (pa_cons (pe_op op_mod (pe_callTy call_int1 (by rfl) B.int (by decide +kernel) (pa_cons (pv 3) pa_nil)) (pv 6)) pa_nil)))
 (pss_one (ps_set (i := 3) sc_law_draws.nd rfl (Or.inl rfl) (pe_op op_fdiv (pv 3) (pv 6)))))
 (pss_cons (ps_set (i := 4) sc_law_draws.nd rfl (Or.inl rfl) (pe_op op_mod (pe_callTy call_int1 (by rfl) B.int (by decide +kernel) (pa_cons (pe_op op_add (pe_op op_mul (pv 4) pe_int) pe_int) pa_nil)) pe_int))
 (pss_cons (ps_set (i := 4) sc_law_draws.nd rfl (Or.inl rfl) (pe_op op_mod (pe_callTy call_int1 (by rfl) B.int (by decide +kernel) (pa_cons (pe_op op_add (pe_op op_mul (pv 4) pe_int) pe_int) pa_nil)) pe_int))
 (pss_one (ps_expr (peBm K PySem.F.plainAttrs_list PySem.F.slot_list_append PySem.F.type_list_append mt_append (pv 2) (pa_cons (pe_op op_mod (pe_callTy call_int1 (by rfl) B.int (by decide +kernel) (pa_cons (pe_op op_fdiv (pv 4) pe_int) pa_nil)) (pv 6)) pa_nil)))))))))
 (pss_one (ps_ret (pv 2)))))))), ?_⟩
  refine ⟨sz (by decide), fun o no => ?_⟩
  refine ⟨_, rfl, .inl ⟨_, rfl, _, rfl, ?_⟩⟩
  refine ⟨_, rfl, .inl ⟨_, rfl, _, _, rfl, rfl, (by show (0 : Int) < 2147483647; decide), ?_⟩⟩
  generalize e1 : (if c < 0 then -c else c) = r0
  refine ⟨fun σ' H' => ∃ (fr : Bool), σ' = [some (.int c), some (.ref a), some (.ref o), some (.int r0), some (.int (r0 % 2147483647)), some (.bl fr), none] ∧ H' = upd H o (.lst []), ?_, fun σ' H' => ?_⟩
  · refine ⟨_, rfl, _, _, rfl, rfl, _, rfl, ite2 (fun e => ⟨true, rfl, rfl⟩) (fun e => ?_)⟩
    refine ⟨_, rfl, _, _, rfl, rfl, ⟨by decide, by decide, by decide⟩, _, _, rfl, rfl, ⟨_, rfl, rfl⟩⟩
  rintro ⟨fr, rfl, rfl⟩
  refine ⟨_, rfl, a, rfl, ⟨_, (same_new no).seq hs⟩, for_list (xs := ms.map V.int) (DrI H a o c fr ms) ?_ ?_ ?_ ?_⟩
  · exact ⟨r0, _, none, [], rfl, Int.emod_nonneg _ (by decide), Int.emod_lt_of_pos _ (by decide), same_new no, upd_same, trivial⟩
  · rintro i σ' H' _ ⟨r, s0, y, ds, rfl, _, _, sm, _⟩
    exact sm.seq hs
  · rintro i x σ' H' hx ⟨r, s0, y, ds, rfl, h0, h1, sm, eo, hd⟩
    obtain ⟨lim, hlim, rfl⟩ := get_map_inv hx
    have hb := hm lim (List.mem_of_getElem? hlim)
    have hi2 : i < ms.length := (List.getElem?_eq_some_iff.mp hlim).1
    have hdl := hd.len
    rw [List.length_take] at hdl
    have dl : (ds.map V.int).length < sizeLine := szl (by rw [List.length_map]; omega)
    have fin : ∀ (r1 s1 d : Int), 0 ≤ s1 → s1 < 2147483647 → 0 ≤ d → d < lim → DrI H a o c fr ms (i + 1) [some (V.int c), some (.ref a), some (.ref o), some (.int r1), some (.int s1), some (.bl fr), some (.int lim)] (upd H' o (.lst (ds.map V.int ++ [.int d]))) := fun r1 s1 d a1 a2 a3 a4 =>
      ⟨r1, s1, _, ds ++ [d], rfl, a1, a2, Same.mut sm no, by rw [upd_same, List.map_append]; rfl, by rw [take_snoc hlim]; exact hd.snoc a3 a4⟩
    have no1 : ∀ z : Int, 0 ≤ z % lim ∧ z % lim < lim := fun z => ⟨Int.emod_nonneg _ (by omega), Int.emod_lt_of_pos _ (by omega)⟩
    have els : ∀ (r1 s1 : Int), True := fun _ _ => trivial
    refine ⟨_, rfl, fr, rfl, ?_⟩
    cases fr with
    | true =>
      refine iteT ⟨_, rfl, _, _, rfl, rfl, _, rfl, ite2 (fun e => ?_) (fun e => ?_)⟩
      · refine ⟨_, rfl, .inl ⟨rfl, _, sq eo⟩, _, rfl, .inl ⟨_, rfl, _, rfl, _, _, rfl, rfl, hb.1, o, _, _, rfl, rfl, eo, dl, ?_⟩⟩
        refine ⟨_, rfl, _, rfl, _, _, rfl, rfl, ⟨hb.1, hb.2⟩, ?_⟩
        exact fin _ _ _ h0 h1 (no1 r).1 (no1 r).2
      · refine ⟨_, rfl, _, _, rfl, rfl, .inl ⟨by omega, by omega⟩, _, _, rfl, rfl, .inl ⟨_, rfl, _, _, rfl, rfl, (by show (0 : Int) < 2147483647; decide), ?_⟩⟩
        have b1 := Int.emod_nonneg (s0 * 48271 + 11) (show (2147483647 : Int) ≠ 0 by decide)
        have b2 := Int.emod_lt_of_pos (s0 * 48271 + 11) (show (0 : Int) < 2147483647 by decide)
        refine ⟨_, rfl, _, _, rfl, rfl, .inl ⟨by omega, by omega⟩, _, _, rfl, rfl, .inl ⟨_, rfl, _, _, rfl, rfl, (by show (0 : Int) < 2147483647; decide), ?_⟩⟩
        refine ⟨_, rfl, .inl ⟨rfl, _, sq eo⟩, _, rfl, _, _, rfl, rfl, ⟨by decide, by decide⟩, .inl ⟨_, rfl, _, rfl, _, _, rfl, rfl, hb.1, o, _, _, rfl, rfl, eo, dl, ?_⟩⟩
        exact fin _ _ _ (Int.emod_nonneg _ (by decide)) (Int.emod_lt_of_pos _ (by decide)) (no1 _).1 (no1 _).2
    | false =>
      refine iteF ?_
      refine ⟨_, rfl, _, _, rfl, rfl, .inl ⟨by omega, by omega⟩, _, _, rfl, rfl, .inl ⟨_, rfl, _, _, rfl, rfl, (by show (0 : Int) < 2147483647; decide), ?_⟩⟩
      have b1 := Int.emod_nonneg (s0 * 48271 + 11) (show (2147483647 : Int) ≠ 0 by decide)
      have b2 := Int.emod_lt_of_pos (s0 * 48271 + 11) (show (0 : Int) < 2147483647 by decide)
      refine ⟨_, rfl, _, _, rfl, rfl, .inl ⟨by omega, by omega⟩, _, _, rfl, rfl, .inl ⟨_, rfl, _, _, rfl, rfl, (by show (0 : Int) < 2147483647; decide), ?_⟩⟩
      refine ⟨_, rfl, .inl ⟨rfl, _, sq eo⟩, _, rfl, _, _, rfl, rfl, ⟨by decide, by decide⟩, .inl ⟨_, rfl, _, rfl, _, _, rfl, rfl, hb.1, o, _, _, rfl, rfl, eo, dl, ?_⟩⟩
      exact fin _ _ _ (Int.emod_nonneg _ (by decide)) (Int.emod_lt_of_pos _ (by decide)) (no1 _).1 (no1 _).2
  · rintro σ' H' ⟨r, s0, y, ds, rfl, h0, h1, sm, eo, hd⟩
    rw [List.length_map, List.take_length] at hd
    exact ⟨_, rfl, q H' o ds sm no eo hd⟩
end
/-! ### machines -/
abbrev nV (n : Nat) : V := .int (n : Int)
abbrev nD (n : Nat) : PyData := .int (n : Int)
structure MvT where
  st : Nat
  pl : Nat
  ns : Nat
  np : Nat
  sd : Option Nat
  sh : List (Nat × Nat)
def sdV : Option Nat → V
  | none => .non
  | some d => nV d
def sdD : Option Nat → PyData
  | none => .none
  | some d => nD d
def shD (p : Nat × Nat) : PyData := .tuple [nD p.1, nD p.2]
def MvT.data (m : MvT) : PyData := .tuple [nD m.st, nD m.pl, nD m.ns, nD m.np, sdD m.sd, .list (m.sh.map shD)]
structure MT where
  states : Nat
  places : Nat
  sst : Nat
  cnts : List Int
  crew : Nat
  moves : List MvT
def MT.data (M : MT) : PyData := .tuple [nD M.states, nD M.places, sitD M.sst M.cnts, nD M.crew, .list (M.moves.map MvT.data)]
structure ShOk (sh : List (Nat × Nat)) (P : Nat) : Prop where
  asc : (sh.map (·.1)).Pairwise (· < ·)
  fst : ∀ p ∈ sh, p.1 < P
  snd : ∀ p ∈ sh, p.2 < P
  sep : ∀ p ∈ sh, ∀ q ∈ sh, p.2 ≠ q.1
structure MvT.Fit (m : MvT) (S P : Nat) : Prop where
  st : m.st < S
  pl : m.pl < P
  ns : m.ns < S
  np : m.np < P
  sd : ∀ d, m.sd = some d → d < P
  sh : ShOk m.sh P
structure MT.Ok (M : MT) : Prop where
  s1 : 1 ≤ M.states
  s2 : M.states ≤ 4
  p1 : 1 ≤ M.places
  p2 : M.places ≤ 6
  ss : M.sst < M.states
  cl : M.cnts.length = M.places
  cb : ∀ c ∈ M.cnts, 0 ≤ c ∧ c < 3
  cr : M.crew < M.places
  ml : M.moves.length ≤ 12
  fit : ∀ m ∈ M.moves, m.Fit M.states M.places
  nd : M.moves.Nodup
def shiftAll (sh : List (Nat × Nat)) (cs : List Int) : List Int := sh.foldl (fun cs p => (cs.set p.2 (cs.getD p.2 0 + cs.getD p.1 0)).set p.1 0) cs
def bump (cs : List Int) (k : Nat) (z : Int) : List Int := cs.set k (cs.getD k 0 + z)
def MvT.mid (m : MvT) (cs : List Int) : List Int := shiftAll m.sh (bump cs m.pl (-1))
def MvT.aft (m : MvT) (cs : List Int) : List Int := match m.sd with
  | none => bump (m.mid cs) m.np 1
  | some d => bump (bump (m.mid cs) m.np 1) d 1
def MvT.can (m : MvT) (s : Int) (cs : List Int) : Bool := decide ((m.st : Int) = s) && decide (0 < cs.getD m.pl 0)
def canAt (ms : List MvT) (s : Int) (cs : List Int) (k : Nat) : Bool := match ms[k]? with
  | some m => m.can s cs
  | none => false
def canL (ms : List MvT) (s : Int) (cs : List Int) : List Nat := (List.range ms.length).filter (canAt ms s cs)
theorem shiftAll_len : ∀ (sh : List (Nat × Nat)) (cs : List Int), (shiftAll sh cs).length = cs.length
  | [], _ => rfl
  | p :: r, cs => by
    show (shiftAll r _).length = _
    rw [shiftAll_len r, List.length_set, List.length_set]
theorem bump_len (cs : List Int) (k : Nat) (z : Int) : (bump cs k z).length = cs.length := List.length_set
theorem mid_len (m : MvT) (cs : List Int) : (m.mid cs).length = cs.length := by
  unfold MvT.mid
  rw [shiftAll_len, bump_len]
theorem aft_len (m : MvT) (cs : List Int) : (m.aft cs).length = cs.length := by
  unfold MvT.aft
  split
  · rw [bump_len, mid_len]
  · rw [bump_len, bump_len, mid_len]
theorem shiftAll_snoc (sh : List (Nat × Nat)) (p : Nat × Nat) (cs : List Int) : shiftAll (sh ++ [p]) cs = ((shiftAll sh cs).set p.2 ((shiftAll sh cs).getD p.2 0 + (shiftAll sh cs).getD p.1 0)).set p.1 0 := by
  unfold shiftAll
  rw [List.foldl_append]
  rfl
theorem filt_yes {f : Nat → Bool} {i : Nat} (h : f i = true) : (List.range (i + 1)).filter f = (List.range i).filter f ++ [i] := by
  rw [List.range_succ, List.filter_append, List.filter_cons, if_pos h]
  rfl
theorem filt_no {f : Nat → Bool} {i : Nat} (h : f i = false) : (List.range (i + 1)).filter f = (List.range i).filter f := by
  rw [List.range_succ, List.filter_append, List.filter_cons, if_neg (by rw [h]; decide)]
  show _ ++ [] = _
  rw [List.append_nil]
theorem filt_len (n : Nat) (f : Nat → Bool) : ((List.range n).filter f).length ≤ n := by
  have h := List.length_filter_le f (List.range n)
  rw [List.length_range] at h
  exact h
theorem mem_canL {ms : List MvT} {s : Int} {cs : List Int} {k : Nat} : k ∈ canL ms s cs ↔ ∃ m, ms[k]? = some m ∧ m.can s cs = true := by
  unfold canL
  rw [List.mem_filter, List.mem_range]
  unfold canAt
  constructor
  · rintro ⟨h1, h2⟩
    rw [List.getElem?_eq_getElem h1] at h2
    exact ⟨_, List.getElem?_eq_getElem h1, h2⟩
  · rintro ⟨m, h1, h2⟩
    rw [h1]
    exact ⟨(List.getElem?_eq_some_iff.mp h1).1, h2⟩
section
variable {K : PySem.W.Frag} {H : Hp}
theorem dp_sd {v : V} {o : Option Nat} (h : Dp K H v (sdD o)) : v = sdV o := by
  cases o with
  | none => cases h; rfl
  | some d => exact dp_int h
theorem sd_dp (o : Option Nat) : Dp K H (sdV o) (sdD o) := by
  cases o with
  | none => exact .non
  | some d => exact .int _
theorem dp_sh {v : V} {p : Nat × Nat} (h : Dp K H v (shD p)) : ∃ a, v = .ref a ∧ SqT K H a [nV p.1, nV p.2] := by
  obtain ⟨a, xs, rfl, hs, h⟩ := dp_tup h
  obtain ⟨v1, r1, rfl, d1, h⟩ := dpa_cons h
  obtain ⟨v2, r2, rfl, d2, h⟩ := dpa_cons h
  rw [dp_int d1, dp_int d2, dpa_nil h] at hs
  exact ⟨a, rfl, hs⟩
theorem dp_mv {v : V} {m : MvT} (h : Dp K H v m.data) : ∃ a sa xs, v = .ref a ∧ SqT K H a [nV m.st, nV m.pl, nV m.ns, nV m.np, sdV m.sd, .ref sa] ∧ SqL K H sa xs ∧ DpAll K H xs (m.sh.map shD) := by
  obtain ⟨a, xs, rfl, hs, h⟩ := dp_tup h
  obtain ⟨v1, r1, rfl, d1, h⟩ := dpa_cons h
  obtain ⟨v2, r2, rfl, d2, h⟩ := dpa_cons h
  obtain ⟨v3, r3, rfl, d3, h⟩ := dpa_cons h
  obtain ⟨v4, r4, rfl, d4, h⟩ := dpa_cons h
  obtain ⟨v5, r5, rfl, d5, h⟩ := dpa_cons h
  obtain ⟨v6, r6, rfl, d6, h⟩ := dpa_cons h
  obtain rfl := dpa_nil h
  obtain ⟨sa, ys, rfl, h1, h2⟩ := dp_lst d6
  rw [dp_int d1, dp_int d2, dp_int d3, dp_int d4, dp_sd d5] at hs
  exact ⟨a, sa, ys, rfl, hs, h1, h2⟩
theorem dp_mt {v : V} {M : MT} (h : Dp K H v M.data) : ∃ a sv ma xs, v = .ref a ∧ SqT K H a [nV M.states, nV M.places, sv, nV M.crew, .ref ma] ∧ Sit K H sv M.sst M.cnts ∧ SqL K H ma xs ∧ DpAll K H xs (M.moves.map MvT.data) := by
  obtain ⟨a, xs, rfl, hs, h⟩ := dp_tup h
  obtain ⟨v1, r1, rfl, d1, h⟩ := dpa_cons h
  obtain ⟨v2, r2, rfl, d2, h⟩ := dpa_cons h
  obtain ⟨v3, r3, rfl, d3, h⟩ := dpa_cons h
  obtain ⟨v4, r4, rfl, d4, h⟩ := dpa_cons h
  obtain ⟨v5, r5, rfl, d5, h⟩ := dpa_cons h
  obtain rfl := dpa_nil h
  obtain ⟨ma, ys, rfl, h1, h2⟩ := dp_lst d5
  rw [dp_int d1, dp_int d2, dp_int d4] at hs
  exact ⟨a, v3, ma, ys, rfl, hs, dp_sit d3, h1, h2⟩
theorem dpa_map_at {α : Type} {f : α → PyData} {xs : List V} {as : List α} (h : DpAll K H xs (as.map f)) {i : Nat} {x : V} (hx : xs[i]? = some x) : ∃ a, as[i]? = some a ∧ Dp K H x (f a) := by
  obtain ⟨d, hd, dx⟩ := dpa_at h hx
  obtain ⟨a, ha, rfl⟩ : ∃ a, as[i]? = some a ∧ d = f a := by
    rw [List.getElem?_map] at hd
    cases e : as[i]? with
    | none => rw [e] at hd; cases hd
    | some a => rw [e] at hd; exact ⟨a, rfl, (Option.some.inj hd).symm⟩
  exact ⟨a, ha, dx⟩
theorem dpa_map_at' {α : Type} {f : α → PyData} {xs : List V} {as : List α} (h : DpAll K H xs (as.map f)) {i : Nat} {a : α} (ha : as[i]? = some a) : ∃ x, xs[i]? = some x ∧ Dp K H x (f a) := by
  obtain ⟨v, hv, dv⟩ := dpa_at' h (i := i) (d := f a) (by rw [List.getElem?_map, ha]; rfl)
  exact ⟨v, hv, dv⟩
theorem dpa_map_len {α : Type} {f : α → PyData} {xs : List V} {as : List α} (h : DpAll K H xs (as.map f)) : xs.length = as.length := by
  have := dpa_len h
  rw [List.length_map] at this
  exact this
end
theorem at_n {xs : List V} {i : Int} {j : Nat} {v : V} (e : i = (j : Int)) (h : xs[j]? = some v) : atI xs i = some v := by
  rw [e]
  exact atI_nat h
theorem hu65 {A : Around} {k : Nat} (hr : Room k A) : A.units + 65 < cLine := by
  have := hr.un
  omega
theorem opNotInD {X : Cx} (K : PySem.W.Frag) (hu : X.A.units + 65 < cLine) (h : X.K = K := by rfl) : OpR X (compareOp .NotIn) (rNotInD K) := h ▸ op_notInD hu
theorem opInD {X : Cx} (K : PySem.W.Frag) (hu : X.A.units + 65 < cLine) (h : X.K = K := by rfl) : OpR X (compareOp .In) (rInD K) := h ▸ op_inD hu
section
variable {P : Program} {w : World} {K : PySem.W.Frag} {mg : Str → Option Value} {base : Heap}
abbrev s_move_at : Stmt := topS 10
theorem sc_move_at : FnScope ["machine", "index"] ["machine", "index"] (defScope s_move_at) := ⟨rfl, rfl, rfl, by decide +kernel, rfl, by decide +kernel, by decide +kernel⟩
-- move_at slots: machine=0 index=1 globals: len OutOfRange
def spMvAt (K : PySem.W.Frag) : Sp := fun vs H Q _ => ∃ (v : V) (M : MT) (i : Nat) (m : MvT), vs = [v, nV i] ∧ Dp K H v M.data ∧ M.moves[i]? = some m ∧ ∀ x, Dp K H x m.data → Q x H
theorem fd_move_at {f : Addr} {fd : FuncData} (F : Fun K "move_at" "move_at" s_move_at f fd) (m : mg "move_at" = some (.ref f)) (B : Bt mg) : Fd P w K mg base "move_at" ["machine", "index"] 1 (spMvAt K) := by
  refine ⟨f, fd, F.ok sc_move_at (fun vs H Q E h => ?_) (fun cdv A outer s H vs Q E hr h => ?_), m, F.kp, F.binds (ps := ["machine", "index"]) fun _ _ _ _ _ _ us hl => match us, hl with | [_, _], _ => rfl⟩
  · obtain ⟨v, M, i, m, rfl, _⟩ := h
    rfl
  obtain ⟨v, M, i, mv, rfl, hd, hm, q⟩ := h
  obtain ⟨a, sv, ma, xs, rfl, ha, _, hma, hxs⟩ := dp_mt hd
  obtain ⟨x, hx, dx⟩ := dpa_map_at' hxs hm
  have hi : i < xs.length := (List.getElem?_eq_some_iff.mp hx).1
  refine ⟨_, (pss_cons (ps_if (pt_not (pt_chain op_le op_lt pe_int (pv 1) (pe_callB (cLen K) (by rfl) B.len PySem.boot_len (pa_cons (pe_ix (ixT K) (pv 0) pe_int (fun _ _ => rfl)) pa_nil))))
 (pss_one ps_never)
 pss_nil)
 (pss_one (ps_ret (pe_ix (ixL K) (pe_ix (ixT K) (pv 0) pe_int (fun _ _ => rfl)) (pv 1) (fun _ _ => rfl))))), ?_⟩
  refine ⟨_, rfl, _, _, rfl, rfl, _, rfl, ?_⟩
  rw [if_pos (decide_eq_true (show (0 : Int) ≤ (i : Int) by omega))]
  refine ⟨_, rfl, _, _, _, _, rfl, rfl, ha, atI_nat (j := 4) rfl, ma, _, rfl, .inl hma, _, _, rfl, rfl, _, rfl, ?_⟩
  rw [decide_eq_true (show (i : Int) < (xs.length : Int) by omega)]
  refine iteF ?_
  exact ⟨_, rfl, _, _, _, _, rfl, rfl, ha, atI_nat (j := 4) rfl, _, rfl, _, _, _, _, rfl, rfl, hma, atI_nat hx, q _ dx⟩
abbrev s_can_take : Stmt := topS 11
theorem sc_can_take : FnScope ["situation", "move"] ["situation", "move"] (defScope s_can_take) := ⟨rfl, rfl, rfl, by decide +kernel, rfl, by decide +kernel, by decide +kernel⟩
-- can_take slots: situation=0 move=1 globals: 
def spCan (K : PySem.W.Frag) : Sp := fun vs H Q _ => ∃ (x y : V) (s : Int) (cs : List Int) (m : MvT), vs = [x, y] ∧ Sit K H x s cs ∧ Dp K H y m.data ∧ m.pl < cs.length ∧ Q (.bl (m.can s cs)) H
theorem fd_can_take {f : Addr} {fd : FuncData} (F : Fun K "can_take" "can_take" s_can_take f fd) (m : mg "can_take" = some (.ref f)) (B : Bt mg) : Fd P w K mg base "can_take" ["situation", "move"] 1 (spCan K) := by
  refine ⟨f, fd, F.ok sc_can_take (fun vs H Q E h => ?_) (fun cdv A outer s H vs Q E hr h => ?_), m, F.kp, F.binds (ps := ["situation", "move"]) fun _ _ _ _ _ _ us hl => match us, hl with | [_, _], _ => rfl⟩
  · obtain ⟨x, y, s, cs, m, rfl, _⟩ := h
    rfl
  obtain ⟨x, y, s, cs, mv, rfl, ⟨a, ca, rfl, ha, hca⟩, hd, hp, q⟩ := h
  obtain ⟨b, sa, xs, rfl, hb, _⟩ := dp_mv hd
  refine ⟨_, (pss_one (ps_ret (pe_and (pe_cmpR op_eq (pe_ix (ixT K) (pv 1) pe_int (fun _ _ => rfl)) (pe_ix (ixT K) (pv 0) pe_int (fun _ _ => rfl)) (nomark _)) (pe_one (pe_cmpR op_gt (pe_ix (ixL K) (pe_ix (ixT K) (pv 0) pe_int (fun _ _ => rfl)) (pe_ix (ixT K) (pv 1) pe_int (fun _ _ => rfl)) (fun _ _ => rfl)) pe_int (nomark _)))))), ?_⟩
  refine ⟨_, rfl, _, _, _, _, rfl, rfl, hb, atI_nat (j := 0) rfl, _, rfl, _, _, _, _, rfl, rfl, ha, atI_nat (j := 0) rfl, rfl, _, rfl, ?_⟩
  have e1 : decide (V.int (mv.st : Int) = V.int s) = decide ((mv.st : Int) = s) := by
    by_cases h : (mv.st : Int) = s
    · rw [decide_eq_true h, h, decide_eq_true rfl]
    · rw [decide_eq_false h, decide_eq_false fun z => h (by cases z; rfl)]
  rw [e1]
  unfold MvT.can at q
  refine ite2 (fun e => ?_) (fun e => ?_)
  · rw [e, Bool.true_and] at q
    exact ⟨_, rfl, _, _, _, _, rfl, rfl, ha, atI_nat (j := 1) rfl, _, rfl, _, _, _, _, rfl, rfl, hb, atI_nat (j := 1) rfl, _, _, _, _, rfl, rfl, hca, at_gd rfl hp, _, _, rfl, rfl, q⟩
  · have e2 : decide ((mv.st : Int) = s) = false := by
      cases h : decide ((mv.st : Int) = s) with
      | true => exact absurd h e
      | false => rfl
    rw [e2, Bool.false_and] at q
    exact q
theorem set_int (cs : List Int) (k : Nat) (z : Int) : (cs.map V.int).set k (.int z) = (cs.set k z).map V.int := List.map_set.symm
/-- the situation after a move -/
def NewSit (H H' : Hp) (p : Addr) (s : Int) (cs : List Int) : Prop := ∃ ca, H p = none ∧ H ca = none ∧ ca ≠ p ∧ H' p = some (.tup [.int s, .ref ca]) ∧ H' ca = some (.lst (cs.map V.int))
theorem NewSit.sit {H H' : Hp} {p : Addr} {s : Int} {cs : List Int} (h : NewSit H H' p s cs) : Sit K H' (.ref p) s cs := by
  obtain ⟨ca, _, _, _, h1, h2⟩ := h
  exact ⟨p, ca, rfl, st h1, sq h2⟩
abbrev s_after : Stmt := topS 8
theorem sc_after : FnScope ["machine", "situation", "move", "taken", "_", "place", "next_state", "next_place", "started", "shifts", "counts", "first", "second"] ["machine", "situation", "move"] (defScope s_after) := ⟨rfl, rfl, rfl, by decide +kernel, rfl, by decide +kernel, by decide +kernel⟩
-- after slots: machine=0 situation=1 move=2 taken=3 _=4 place=5 next_state=6 next_place=7 started=8 shifts=9 counts=10 first=11 second=12 globals: move_at can_take NotPossible list
def spAft (K : PySem.W.Frag) : Sp := fun vs H Q _ => ∃ (v x : V) (M : MT) (i : Nat) (m : MvT) (s : Int) (cs : List Int), vs = [v, x, nV i] ∧ Dp K H v M.data ∧ Sit K H x s cs ∧ M.moves[i]? = some m ∧ m.can s cs = true ∧ m.Fit M.states cs.length ∧
  ∀ H' p, Same H H' → NewSit H H' p m.ns (m.aft cs) → Q (.ref p) H'
theorem fd_after {f : Addr} {fd : FuncData} (F : Fun K "after" "after" s_after f fd) (m : mg "after" = some (.ref f)) (B : Bt mg) (D_move_at : Fd P w K mg base "move_at" ["machine", "index"] 1 (spMvAt K)) (D_can_take : Fd P w K mg base "can_take" ["situation", "move"] 1 (spCan K)) : Fd P w K mg base "after" ["machine", "situation", "move"] 2 (spAft K) := by
  refine ⟨f, fd, F.ok sc_after (fun vs H Q E h => ?_) (fun cdv A outer s H vs Q E hr h => ?_), m, F.kp, F.binds (ps := ["machine", "situation", "move"]) fun _ _ _ _ _ _ us hl => match us, hl with | [_, _, _], _ => rfl⟩
  · obtain ⟨v, x, M, i, m, s, cs, rfl, _⟩ := h
    rfl
  obtain ⟨v, x, M, i, mv, s, cs, rfl, hd, hx, hm, hcan, hf, q⟩ := h
  refine ⟨_, (pss_cons (ps_set (i := 3) sc_after.nd rfl (Or.inl rfl) (pe_fn D_move_at (hr.mono (by decide)) rfl (pa_cons (pv 0) (pa_cons (pv 2) pa_nil))))
 (pss_cons (ps_if (pt_not (pt_val (pe_fn D_can_take (hr.mono (by decide)) rfl (pa_cons (pv 1) (pa_cons (pv 3) pa_nil)))))
 (pss_one ps_never)
 pss_nil)
 (pss_cons (ps_asg (pv 3) (pg_tup rfl (pgs_cons (pg_name (i := 4) sc_after.nd rfl (Or.inl rfl)) (pgs_cons (pg_name (i := 5) sc_after.nd rfl (Or.inl rfl)) (pgs_cons (pg_name (i := 6) sc_after.nd rfl (Or.inl rfl)) (pgs_cons (pg_name (i := 7) sc_after.nd rfl (Or.inl rfl)) (pgs_cons (pg_name (i := 8) sc_after.nd rfl (Or.inl rfl)) (pgs_cons (pg_name (i := 9) sc_after.nd rfl (Or.inl rfl)) pgs_nil))))))))
 (pss_cons (ps_set (i := 10) sc_after.nd rfl (Or.inl rfl) (pe_callTy (cList K) (by rfl) B.list (by decide +kernel) (pa_cons (pe_ix (ixT K) (pv 1) pe_int (fun _ _ => rfl)) pa_nil)))
 (pss_cons (ps_augS (pv 10) (pv 5) (getL K) pe_int ip_sub set_list)
 (pss_cons (ps_for PassesOwn.never rfl (piL K (pv 9)) (pg_tup rfl (pgs_cons (pg_name (i := 11) sc_after.nd rfl (Or.inl rfl)) (pgs_cons (pg_name (i := 12) sc_after.nd rfl (Or.inl rfl)) pgs_nil)))
 (pss_cons (ps_augS (pv 10) (pv 12) (getL K) (pe_ix (ixL K) (pv 10) (pv 11) (fun _ _ => rfl)) ip_add set_list)
 (pss_one (ps_asg pe_int (pg_sub (pv 10) (pv 11) set_list)))))
 (pss_cons (ps_augS (pv 10) (pv 7) (getL K) pe_int ip_add set_list)
 (C8.pss_cut (ps_if (pt_cmpR op_notN (pv 8) pe_non (nomark _))
 (pss_one (ps_augS (pv 10) (pv 8) (getL K) pe_int ip_add set_list))
 pss_nil)
 (pss_one (ps_ret (pe_tup (pa_cons (pv 6) (pa_cons (pv 10) pa_nil))))))))))))), ?_⟩
  refine ⟨_, rfl, _, rfl, v, M, i, mv, rfl, hd, hm, fun y dy => ?_⟩
  dsimp only [gName]
  refine ⟨_, rfl, _, rfl, _, _, s, cs, mv, rfl, hx, dy, hf.pl, _, rfl, ?_⟩
  rw [hcan]
  refine iteF ?_
  obtain ⟨b, sa, xs, rfl, hb, hsa, hxs⟩ := dp_mv dy
  obtain ⟨a, ca, rfl, ha, hca⟩ := hx
  refine ⟨_, rfl, b, _, rfl, hb, rfl, _, _, rfl, _, _, rfl, _, _, rfl, _, _, rfl, _, _, rfl, _, _, rfl, rfl, ?_⟩
  dsimp only [gName]
  refine ⟨_, rfl, _, _, _, _, rfl, rfl, ha, atI_nat (j := 1) rfl, ca, _, rfl, .inl hca, fun l nl => ?_⟩
  dsimp only [gName]
  refine ⟨_, rfl, _, rfl, _, _, _, _, rfl, rfl, (show (0 : Int) ≤ (mv.pl : Int) by omega), sq upd_same, at_gd rfl hf.pl, _, _, rfl, rfl, _, _, _, _, rfl, rfl, upd_same, ixN_nat (by rw [List.length_map]; exact hf.pl), ?_⟩
  rw [set_int]
  have xl := dpa_map_len hxs
  refine ⟨_, rfl, sa, rfl, ⟨_, (Same.mut (same_new nl) nl).seq hsa⟩, for_list (xs := xs) (fun j σ' H' => ∃ y11 y12 : Option V, σ' = [some v, some (.ref a), some (nV i), some (.ref b), some (nV mv.st), some (nV mv.pl), some (nV mv.ns), some (nV mv.np), some (sdV mv.sd), some (.ref sa), some (.ref l), y11, y12] ∧ Same H H' ∧ H' l = some (.lst ((shiftAll (mv.sh.take j) (bump cs mv.pl (-1))).map V.int))) ⟨none, none, rfl, Same.mut (same_new nl) nl, by rw [upd_same]; rfl⟩ ?_ ?_ ?_⟩
  · rintro j σ' H' _ ⟨y11, y12, rfl, sm, _⟩
    exact sm.seq hsa
  · rintro j x σ' H' hx ⟨y11, y12, rfl, sm, el⟩
    obtain ⟨p, hp, dx⟩ := dpa_map_at hxs hx
    obtain ⟨t, rfl, ht⟩ := dp_sh dx
    have p1 := hf.sh.fst p (List.mem_of_getElem? hp)
    have p2 := hf.sh.snd p (List.mem_of_getElem? hp)
    have ln : (shiftAll (mv.sh.take j) (bump cs mv.pl (-1))).length = cs.length := by rw [shiftAll_len, bump_len]
    rw [take_snoc hp, shiftAll_snoc]
    generalize shiftAll (mv.sh.take j) (bump cs mv.pl (-1)) = c1 at el ln ⊢
    refine ⟨t, _, rfl, Same.seqT sm ht, rfl, _, _, rfl, _, _, rfl, rfl, ?_⟩
    dsimp only [gName]
    refine ⟨_, rfl, _, rfl, _, _, _, _, rfl, rfl, (show (0 : Int) ≤ (p.2 : Int) by omega), sq el, at_gd rfl (by omega), _, rfl, _, rfl, _, _, _, _, rfl, rfl, sq el, at_gd rfl (by omega), _, _, rfl, rfl, _, _, _, _, rfl, rfl, el, ixN_nat (by rw [List.length_map]; omega), ?_⟩
    rw [set_int]
    refine ⟨_, rfl, _, rfl, l, _, _, _, rfl, rfl, upd_same, ixN_nat (by rw [List.length_map, List.length_set]; omega), ?_⟩
    rw [set_int]
    exact ⟨_, _, rfl, Same.mut (Same.mut sm nl) nl, upd_same⟩
  · rintro σ' H' ⟨y11, y12, rfl, sm, el⟩
    rw [List.take_of_length_le (by omega)] at el
    have ln : (mv.mid cs).length = cs.length := mid_len mv cs
    change H' l = some (.lst ((mv.mid cs).map V.int)) at el
    refine ⟨_, rfl, _, rfl, _, _, _, _, rfl, rfl, (show (0 : Int) ≤ (mv.np : Int) by omega), sq el, at_gd rfl (by rw [ln]; exact hf.np), _, _, rfl, rfl, _, _, _, _, rfl, rfl, el, ixN_nat (by rw [List.length_map, ln]; exact hf.np), ?_⟩
    rw [set_int]
    refine ⟨fun σ' H' => σ' = [some v, some (.ref a), some (nV i), some (.ref b), some (nV mv.st), some (nV mv.pl), some (nV mv.ns), some (nV mv.np), some (sdV mv.sd), some (.ref sa), some (.ref l), y11, y12] ∧ Same H H' ∧ H' l = some (.lst ((mv.aft cs).map V.int)), ?_, ?_⟩
    · refine ⟨_, rfl, rfl, _, rfl, ?_⟩
      have hsd := hf.sd
      unfold MvT.aft
      cases esd : mv.sd with
      | none => exact iteF ⟨rfl, Same.mut sm nl, upd_same⟩
      | some d =>
        have hd := hsd d esd
        refine iteT ?_
        refine ⟨_, rfl, _, rfl, _, _, _, _, rfl, rfl, (show (0 : Int) ≤ (d : Int) by omega), sq upd_same, at_gd rfl (by rw [List.length_set, ln]; exact hd), _, _, rfl, rfl, _, _, _, _, rfl, rfl, upd_same, ixN_nat (by rw [List.length_map, List.length_set, ln]; exact hd), ?_⟩
        rw [set_int]
        exact ⟨rfl, Same.mut (Same.mut sm nl) nl, upd_same⟩
    · rintro σ' H2 ⟨rfl, sm2, el2⟩
      refine ⟨_, rfl, _, rfl, szc 2, fun p np => ?_⟩
      have pl : p ≠ l := fun e => by rw [e, el2] at np; cases np
      exact q _ p (sm2.trans (same_new np)) ⟨l, sm2.free np, nl, Ne.symm pl, upd_same, by rw [upd_ne (Ne.symm pl)]; exact el2⟩
def spIsPos (K : PySem.W.Frag) : Sp := fun vs H Q _ => ∃ (v x : V) (M : MT) (i : Nat) (m : MvT) (s : Int) (cs : List Int), vs = [v, x, nV i] ∧ Dp K H v M.data ∧ Sit K H x s cs ∧ M.moves[i]? = some m ∧ m.pl < cs.length ∧ Q (.bl (m.can s cs)) H
abbrev s_is_possible : Stmt := topS 7
theorem sc_is_possible : FnScope ["machine", "situation", "move"] ["machine", "situation", "move"] (defScope s_is_possible) := ⟨rfl, rfl, rfl, by decide +kernel, rfl, by decide +kernel, by decide +kernel⟩
-- is_possible slots: machine=0 situation=1 move=2 globals: can_take move_at
theorem fd_is_possible {f : Addr} {fd : FuncData} (F : Fun K "is_possible" "is_possible" s_is_possible f fd) (m : mg "is_possible" = some (.ref f)) (D_move_at : Fd P w K mg base "move_at" ["machine", "index"] 1 (spMvAt K)) (D_can_take : Fd P w K mg base "can_take" ["situation", "move"] 1 (spCan K)) : Fd P w K mg base "is_possible" ["machine", "situation", "move"] 2 (spIsPos K) := by
  refine ⟨f, fd, F.ok sc_is_possible (fun vs H Q E h => ?_) (fun cdv A outer s H vs Q E hr h => ?_), m, F.kp, F.binds (ps := ["machine", "situation", "move"]) fun _ _ _ _ _ _ us hl => match us, hl with | [_, _, _], _ => rfl⟩
  · obtain ⟨v, x, M, i, m, s, cs, rfl, _⟩ := h
    rfl
  obtain ⟨v, x, M, i, mv, s, cs, rfl, hd, hx, hm, hp, q⟩ := h
  refine ⟨_, (pss_one (ps_ret (pe_fn D_can_take (hr.mono (by decide)) rfl (pa_cons (pv 1) (pa_cons (pe_fn D_move_at (hr.mono (by decide)) rfl (pa_cons (pv 0) (pa_cons (pv 2) pa_nil))) pa_nil))))), ?_⟩
  exact ⟨_, rfl, _, rfl, _, rfl, v, M, i, mv, rfl, hd, hm, fun y dy => ⟨_, _, s, cs, mv, rfl, hx, dy, hp, q⟩⟩
def spStart (K : PySem.W.Frag) : Sp := fun vs H Q _ => ∃ (v : V) (M : MT) (n : Int), vs = [v, .int n] ∧ Dp K H v M.data ∧ 0 ≤ n ∧ M.crew < M.cnts.length ∧ ∀ H' p, Same H H' → NewSit H H' p M.sst (bump M.cnts M.crew n) → Q (.ref p) H'
abbrev s_start_with : Stmt := topS 6
theorem sc_start_with : FnScope ["machine", "crew", "state", "counts", "threads"] ["machine", "crew"] (defScope s_start_with) := ⟨rfl, rfl, rfl, by decide +kernel, rfl, by decide +kernel, by decide +kernel⟩
-- start_with slots: machine=0 crew=1 state=2 counts=3 threads=4 globals: OutOfRange list
theorem fd_start_with {f : Addr} {fd : FuncData} (F : Fun K "start_with" "start_with" s_start_with f fd) (m : mg "start_with" = some (.ref f)) (B : Bt mg) : Fd P w K mg base "start_with" ["machine", "crew"] 1 (spStart K) := by
  refine ⟨f, fd, F.ok sc_start_with (fun vs H Q E h => ?_) (fun cdv A outer s H vs Q E hr h => ?_), m, F.kp, F.binds (ps := ["machine", "crew"]) fun _ _ _ _ _ _ us hl => match us, hl with | [_, _], _ => rfl⟩
  · obtain ⟨v, M, n, rfl, _⟩ := h
    rfl
  obtain ⟨v, M, n, rfl, hd, hn, hc, q⟩ := h
  obtain ⟨a, sv, ma, xs, rfl, ha, ⟨b, ca, rfl, hb, hca⟩, _, _⟩ := dp_mt hd
  refine ⟨_, (pss_cons (ps_if (pt_cmpR op_lt (pv 1) pe_int (nomark _))
 (pss_one ps_never)
 pss_nil)
 (pss_cons (ps_asg (pe_ix (ixT K) (pv 0) pe_int (fun _ _ => rfl)) (pg_tup rfl (pgs_cons (pg_name (i := 2) sc_start_with.nd rfl (Or.inl rfl)) (pgs_cons (pg_name (i := 3) sc_start_with.nd rfl (Or.inl rfl)) pgs_nil))))
 (pss_cons (ps_set (i := 4) sc_start_with.nd rfl (Or.inl rfl) (pe_callTy (cList K) (by rfl) B.list (by decide +kernel) (pa_cons (pv 3) pa_nil)))
 (pss_cons (ps_augS (pv 4) (pe_ix (ixT K) (pv 0) pe_int (fun _ _ => rfl)) (getL K) (pv 1) ip_add set_list)
 (pss_one (ps_ret (pe_tup (pa_cons (pv 2) (pa_cons (pv 4) pa_nil))))))))), ?_⟩
  refine ⟨_, rfl, _, _, rfl, rfl, _, rfl, ?_⟩
  rw [decide_eq_false (show ¬ n < 0 by omega)]
  refine iteF ?_
  refine ⟨_, rfl, _, _, _, _, rfl, rfl, ha, atI_nat (j := 2) rfl, b, _, rfl, hb, rfl, _, _, rfl, _, _, rfl, rfl, ?_⟩
  dsimp only [gName]
  refine ⟨_, rfl, ca, _, rfl, .inl hca, fun l nl => ?_⟩
  dsimp only [gName]
  refine ⟨_, rfl, _, rfl, _, _, _, _, rfl, rfl, Same.seqT (same_new nl) ha, atI_nat (j := 3) rfl, _, _, _, _, rfl, rfl, (show (0 : Int) ≤ (M.crew : Int) by omega), sq upd_same, at_gd rfl hc, _, rfl, _, _, rfl, rfl, _, _, _, _, rfl, rfl, upd_same, ixN_nat (by rw [List.length_map]; exact hc), ?_⟩
  rw [set_int]
  refine ⟨_, rfl, _, rfl, szc 2, fun p np => ?_⟩
  have pl : p ≠ l := fun e => by rw [e, upd_same] at np; cases np
  exact q _ p ((Same.mut (same_new nl) nl).trans (same_new np)) ⟨l, (Same.mut (same_new nl) nl).free np, nl, Ne.symm pl, upd_same, by rw [upd_ne (Ne.symm pl), upd_same]; rfl⟩
end
section
variable {P : Program} {w : World} {K : PySem.W.Frag} {mg : Str → Option Value} {base : Heap}
theorem canAt_eq {ms : List MvT} {s : Int} {cs : List Int} {k : Nat} {m : MvT} (h : ms[k]? = some m) : canAt ms s cs k = m.can s cs := by
  unfold canAt
  rw [h]
def spPoss (K : PySem.W.Frag) : Sp := fun vs H Q _ => ∃ (v x : V) (M : MT) (s : Int) (cs : List Int), vs = [v, x] ∧ Dp K H v M.data ∧ Sit K H x s cs ∧ (∀ m ∈ M.moves, m.pl < cs.length) ∧ M.moves.length ≤ 1000 ∧
  ∀ H' p, Same H H' → H p = none → H' p = some (.lst ((canL M.moves s cs).map nV)) → Q (.ref p) H'
abbrev s_possible_moves : Stmt := topS 9
theorem sc_possible_moves : FnScope ["machine", "situation", "at", "move"] ["machine", "situation"] (defScope s_possible_moves) := ⟨rfl, rfl, rfl, by decide +kernel, rfl, by decide +kernel, by decide +kernel⟩
-- possible_moves slots: machine=0 situation=1(cell) at=2(None) move=3(None) globals: enumerate
theorem fd_possible_moves {f : Addr} {fd : FuncData} (F : Fun K "possible_moves" "possible_moves" s_possible_moves f fd) (m : mg "possible_moves" = some (.ref f)) (B : Bt mg) (D_can_take : Fd P w K mg base "can_take" ["situation", "move"] 1 (spCan K)) : Fd P w K mg base "possible_moves" ["machine", "situation"] 2 (spPoss K) := by
  refine ⟨f, fd, F.ok sc_possible_moves (fun vs H Q E h => ?_) (fun cdv A outer s H vs Q E hr h => ?_), m, F.kp, F.binds (ps := ["machine", "situation"]) fun _ _ _ _ _ _ us hl => match us, hl with | [_, _], _ => rfl⟩
  · obtain ⟨v, x, M, s, cs, rfl, _⟩ := h
    rfl
  obtain ⟨v, x, M, s, cs, rfl, hd, hx, hp, hl, q⟩ := h
  obtain ⟨a, sv, ma, xs, rfl, ha, _, hma, hxs⟩ := dp_mt hd
  have xl := dpa_map_len hxs
  refine ⟨_, (pss_one (ps_ret (pe_lc (own := [("at", 2), ("move", 3)]) (g := gTup K 2 (gCons (gName 2) (gCons (gName 3) gNil))) (by rfl) sc_possible_moves.nd (pi_enum (by rfl) B.enumerate (pa_cons (pe_ix (ixT K) (pv 0) pe_int (fun _ _ => rfl)) pa_nil)) (blkOk_by (own := [("at", 2), ("move", 3)]) (N := ["machine", "situation", "at", "move"]) (sc := (defScope s_possible_moves)) (by decide +kernel)) (fun _ _ _ _ _ => (pg_tup rfl (pgs_cons (pg_name (i := 2) sc_possible_moves.nd rfl (Or.inl rfl)) (pgs_cons (pg_name (i := 3) sc_possible_moves.nd rfl (Or.inl rfl)) pgs_nil)))) (fun _ _ _ _ _ => (pts_one (pt_val (pe_fn D_can_take (hr.mono (by decide)) rfl (pa_cons (pv 1) (pa_cons (pv 3) pa_nil)))))) (fun _ _ _ _ _ => (pv 2))))), ?_⟩
  refine ⟨_, rfl, _, _, _, _, rfl, rfl, ha, atI_nat (j := 4) rfl, ma, xs, rfl, hma, fun D nD => lc_it walk_enum (fun i H' => Same H H' ∧ H' D = some (.lst (((List.range i).filter (canAt M.moves s cs)).map nV))) ⟨same_new nD, upd_same⟩ (fun i H' _ p => p.1.seq hma) ?_ ?_⟩
  · rintro i y H1 H2 hi ⟨sm, eD⟩ ⟨T, u1, u2, rfl, nT, rfl, e1, e2⟩
    obtain ⟨mv, hmv, dmv⟩ := dpa_map_at hxs e2
    cases e1
    have s2 : Same H (upd H1 T (.tup [V.int (i : Nat), u2])) := sm.trans (same_new nT)
    have eD2 : (upd H1 T (.tup [V.int (i : Nat), u2])) D = some (.lst (((List.range i).filter (canAt M.moves s cs)).map nV)) := (same_new nT) _ _ eD
    refine ⟨T, _, rfl, .inl (.inl upd_same), rfl, _, _, rfl, _, _, rfl, rfl, rfl, ?_⟩
    refine ⟨_, rfl, _, rfl, _, _, s, cs, mv, rfl, Same.sit s2 hx, dp_mono s2 dmv, hp mv (List.mem_of_getElem? hmv), _, rfl, ?_⟩
    rw [← canAt_eq (s := s) (cs := cs) hmv]
    refine ite2 (fun e => ?_) (fun e => ?_)
    · refine ⟨_, rfl, _, eD2, ?_, Same.mut s2 nD, ?_⟩
      · rw [List.length_map]
        have := filt_len i (canAt M.moves s cs)
        exact szl (by omega)
      · rw [upd_same, filt_yes e, List.map_append]
        rfl
    · refine ⟨s2, ?_⟩
      rw [eD2, filt_no (by cases h : canAt M.moves s cs i with | true => exact absurd h e | false => rfl)]
  · rintro H1 ⟨sm, eD⟩
    rw [xl] at eD
    exact q _ D sm nD eD
abbrev s_law_can : Stmt := topS 18
theorem sc_law_can : FnScope ["machine", "situation", "moves", "k"] ["machine", "situation"] (defScope s_law_can) := ⟨rfl, rfl, rfl, by decide +kernel, rfl, by decide +kernel, by decide +kernel⟩
-- _law_can slots: machine=0 situation=1(cell) moves=2(cell) k=3(None) globals: range len
theorem fd_law_can {f : Addr} {fd : FuncData} (F : Fun K "_law_can" "_law_can" s_law_can f fd) (m : mg "_law_can" = some (.ref f)) (B : Bt mg) : Fd P w K mg base "_law_can" ["machine", "situation"] 1 (spPoss K) := by
  refine ⟨f, fd, F.ok sc_law_can (fun vs H Q E h => ?_) (fun cdv A outer s H vs Q E hr h => ?_), m, F.kp, F.binds (ps := ["machine", "situation"]) fun _ _ _ _ _ _ us hl => match us, hl with | [_, _], _ => rfl⟩
  · obtain ⟨v, x, M, s, cs, rfl, _⟩ := h
    rfl
  obtain ⟨v, x, M, s, cs, rfl, hd, ⟨b, ca, rfl, hb, hca⟩, hp, hl, q⟩ := h
  obtain ⟨a, sv, ma, xs, rfl, ha, _, hma, hxs⟩ := dp_mt hd
  have xl := dpa_map_len hxs
  refine ⟨_, (pss_cons (ps_set (i := 2) sc_law_can.nd rfl (Or.inr rfl) (pe_ix (ixT K) (pv 0) pe_int (fun _ _ => rfl)))
 (pss_one (ps_ret (pe_lc (own := [("k", 3)]) (g := gName 3) (by rfl) sc_law_can.nd (pi_range1 rfl B.range (pa_cons (pe_callB (cLen K) (by rfl) B.len PySem.boot_len (pa_cons (pv 2) pa_nil)) pa_nil)) (blkOk_by (own := [("k", 3)]) (N := ["machine", "situation", "moves", "k"]) (sc := (defScope s_law_can)) (by decide +kernel)) (fun _ _ _ _ _ => (pg_name (i := 3) sc_law_can.nd rfl (Or.inl rfl))) (fun _ _ _ _ _ => (pts_one (PW.pt (pw_and (pt_cmpR op_eq (pe_ix (ixT K) (pe_ix (ixL K) (pv 2) (pv 3) (fun _ _ => rfl)) pe_int (fun _ _ => rfl)) (pe_ix (ixT K) (pv 1) pe_int (fun _ _ => rfl)) (nomark _)) (pw_and1 (pt_cmpR op_gt (pe_ix (ixL K) (pe_ix (ixT K) (pv 1) pe_int (fun _ _ => rfl)) (pe_ix (ixT K) (pe_ix (ixL K) (pv 2) (pv 3) (fun _ _ => rfl)) pe_int (fun _ _ => rfl)) (fun _ _ => rfl)) pe_int (nomark _))))))) (fun _ _ _ _ _ => (pv 3)))))), ?_⟩
  refine ⟨_, rfl, _, _, _, _, rfl, rfl, ha, atI_nat (j := 4) rfl, ?_⟩
  dsimp only [gName]
  refine ⟨_, rfl, ma, _, rfl, .inl hma, _, rfl, by omega, by omega, fun D nD => lc_range (lo := 0) (n := xs.length) (fun i H' => Same H H' ∧ H' D = some (.lst (((List.range i).filter (canAt M.moves s cs)).map nV))) ⟨same_new nD, upd_same⟩ ?_ ?_⟩
  · rintro i H1 hi ⟨sm, eD⟩
    obtain ⟨mv, hmv, dmv⟩ := dpa_map_at hxs (List.getElem?_eq_getElem hi)
    have hz : (0 : Int) + (i : Int) = (i : Int) := by omega
    have dm1 := dp_mono sm dmv
    obtain ⟨t, sa, ys, et, ht, _⟩ := dp_mv dm1
    have hx : xs[i]? = some (.ref t) := by rw [← et]; exact List.getElem?_eq_getElem hi
    have go : ∀ b : Bool, canAt M.moves s cs i = b → (if b = true then ∃ acc, H1 D = some (.lst acc) ∧ acc.length < sizeLine ∧ (Same H (upd H1 D (.lst (acc ++ [.int (0 + (i : Int))]))) ∧ (upd H1 D (.lst (acc ++ [.int (0 + (i : Int))]))) D = some (.lst (((List.range (i + 1)).filter (canAt M.moves s cs)).map nV))) else (Same H H1 ∧ H1 D = some (.lst (((List.range (i + 1)).filter (canAt M.moves s cs)).map nV)))) := by
      intro b hb
      cases b with
      | true =>
        rw [if_pos rfl]
        refine ⟨_, eD, ?_, Same.mut sm nD, ?_⟩
        · rw [List.length_map]
          have := filt_len i (canAt M.moves s cs)
          exact szl (by omega)
        · rw [upd_same, filt_yes hb, List.map_append, hz]
          rfl
      | false =>
        rw [if_neg Bool.false_ne_true, filt_no hb]
        exact ⟨sm, eD⟩
    rw [canAt_eq hmv] at go
    unfold MvT.can at go
    refine ⟨rfl, ?_⟩
    refine ⟨_, rfl, _, rfl, _, _, _, _, rfl, rfl, sm.seq hma, at_n hz hx, _, _, _, _, rfl, rfl, ht, atI_nat (j := 0) rfl, _, rfl, _, _, _, _, rfl, rfl, Same.seqT sm hb, atI_nat (j := 0) rfl, rfl, _, rfl, ?_⟩
    have e1 : decide (V.int (mv.st : Int) = V.int s) = decide ((mv.st : Int) = s) := by
      by_cases h : (mv.st : Int) = s
      · rw [decide_eq_true h, h, decide_eq_true rfl]
      · rw [decide_eq_false h, decide_eq_false fun z => h (by cases z; rfl)]
    rw [e1]
    cases h1 : decide ((mv.st : Int) = s) with
    | true =>
      refine iteT ?_
      refine ⟨_, rfl, _, _, _, _, rfl, rfl, Same.seqT sm hb, atI_nat (j := 1) rfl, _, rfl, _, rfl, _, _, _, _, rfl, rfl, sm.seq hma, at_n hz hx, _, _, _, _, rfl, rfl, ht, atI_nat (j := 1) rfl, _, _, _, _, rfl, rfl, sm.seq hca, at_gd rfl (hp mv (List.mem_of_getElem? hmv)), _, _, rfl, rfl, _, rfl, ?_⟩
      have g := go (decide (0 < cs.getD mv.pl 0)) (by rw [h1, Bool.true_and])
      cases h2 : decide (0 < cs.getD mv.pl 0) with
      | true =>
        rw [h2, if_pos rfl] at g
        exact iteT ⟨_, rfl, g⟩
      | false =>
        rw [h2, if_neg Bool.false_ne_true] at g
        exact iteF g
    | false =>
      refine iteF ?_
      have g := go false (by rw [h1, Bool.false_and])
      rw [if_neg Bool.false_ne_true] at g
      exact iteF g
  · rintro H1 ⟨sm, eD⟩
    rw [xl] at eD
    exact q _ D sm nD eD
def spLAft (K : PySem.W.Frag) : Sp := fun vs H Q _ => ∃ (y : V) (ca : Addr) (m : MvT) (cs : List Int) (S : Nat), vs = [y, .ref ca] ∧ Dp K H y m.data ∧ SqL K H ca (cs.map V.int) ∧ m.Fit S cs.length ∧
  ∀ H' p, Same H H' → NewSit H H' p m.ns (m.aft cs) → Q (.ref p) H'
abbrev s_law_after : Stmt := topS 17
theorem sc_law_after : FnScope ["move", "counts", "pair"] ["move", "counts"] (defScope s_law_after) := ⟨rfl, rfl, rfl, by decide +kernel, rfl, by decide +kernel, by decide +kernel⟩
-- _law_after slots: move=0 counts=1 pair=2 globals: list
theorem fd_law_after {f : Addr} {fd : FuncData} (F : Fun K "_law_after" "_law_after" s_law_after f fd) (m : mg "_law_after" = some (.ref f)) (B : Bt mg) : Fd P w K mg base "_law_after" ["move", "counts"] 1 (spLAft K) := by
  refine ⟨f, fd, F.ok sc_law_after (fun vs H Q E h => ?_) (fun cdv A outer s H vs Q E hr h => ?_), m, F.kp, F.binds (ps := ["move", "counts"]) fun _ _ _ _ _ _ us hl => match us, hl with | [_, _], _ => rfl⟩
  · obtain ⟨y, ca, m, cs, S, rfl, _⟩ := h
    rfl
  obtain ⟨y, ca, mv, cs, S, rfl, dy, hca, hf, q⟩ := h
  obtain ⟨b, sa, xs, rfl, hb, hsa, hxs⟩ := dp_mv dy
  have xl := dpa_map_len hxs
  refine ⟨_, (pss_cons (ps_set (i := 1) sc_law_after.nd rfl (Or.inl rfl) (pe_callTy (cList K) (by rfl) B.list (by decide +kernel) (pa_cons (pv 1) pa_nil)))
 (pss_cons (ps_asg (pe_op op_sub (pe_ix (ixL K) (pv 1) (pe_ix (ixT K) (pv 0) pe_int (fun _ _ => rfl)) (fun _ _ => rfl)) pe_int) (pg_sub (pv 1) (pe_ix (ixT K) (pv 0) pe_int (fun _ _ => rfl)) set_list))
 (pss_cons (ps_for PassesOwn.never rfl (piL K (pe_ix (ixT K) (pv 0) pe_int (fun _ _ => rfl))) (pg_name (i := 2) sc_law_after.nd rfl (Or.inl rfl))
 (pss_cons (ps_asg (pe_op op_add (pe_ix (ixL K) (pv 1) (pe_ix (ixT K) (pv 2) pe_int (fun _ _ => rfl)) (fun _ _ => rfl)) (pe_ix (ixL K) (pv 1) (pe_ix (ixT K) (pv 2) pe_int (fun _ _ => rfl)) (fun _ _ => rfl))) (pg_sub (pv 1) (pe_ix (ixT K) (pv 2) pe_int (fun _ _ => rfl)) set_list))
 (pss_one (ps_asg pe_int (pg_sub (pv 1) (pe_ix (ixT K) (pv 2) pe_int (fun _ _ => rfl)) set_list)))))
 (pss_cons (ps_asg (pe_op op_add (pe_ix (ixL K) (pv 1) (pe_ix (ixT K) (pv 0) pe_int (fun _ _ => rfl)) (fun _ _ => rfl)) pe_int) (pg_sub (pv 1) (pe_ix (ixT K) (pv 0) pe_int (fun _ _ => rfl)) set_list))
 (C8.pss_cut (ps_if (pt_cmpR op_notN (pe_ix (ixT K) (pv 0) pe_int (fun _ _ => rfl)) pe_non (nomark _))
 (pss_one (ps_asg (pe_op op_add (pe_ix (ixL K) (pv 1) (pe_ix (ixT K) (pv 0) pe_int (fun _ _ => rfl)) (fun _ _ => rfl)) pe_int) (pg_sub (pv 1) (pe_ix (ixT K) (pv 0) pe_int (fun _ _ => rfl)) set_list)))
 pss_nil)
 (pss_one (ps_ret (pe_tup (pa_cons (pe_ix (ixT K) (pv 0) pe_int (fun _ _ => rfl)) (pa_cons (pv 1) pa_nil)))))))))), ?_⟩
  refine ⟨_, rfl, ca, _, rfl, .inl hca, fun l nl => ?_⟩
  dsimp only [gName]
  have s0 := same_new (o := HO.lst (cs.map V.int)) nl
  refine ⟨_, rfl, _, rfl, _, _, _, _, rfl, rfl, Same.seqT s0 hb, atI_nat (j := 1) rfl, _, _, _, _, rfl, rfl, sq upd_same, at_gd rfl hf.pl, _, _, rfl, rfl, _, rfl, _, rfl, _, _, _, _, rfl, rfl, Same.seqT s0 hb, atI_nat (j := 1) rfl, l, _, _, _, rfl, rfl, upd_same, ixN_nat (by rw [List.length_map]; exact hf.pl), ?_⟩
  rw [set_int]
  have s1 : Same H (upd (upd H l (.lst (cs.map V.int))) l (.lst ((cs.set mv.pl (cs.getD mv.pl 0 - 1)).map V.int))) := Same.mut (same_new nl) nl
  refine ⟨_, rfl, _, _, _, _, rfl, rfl, Same.seqT s1 hb, atI_nat (j := 5) rfl, sa, rfl, ⟨_, s1.seq hsa⟩, for_list (xs := xs) (fun j σ' H' => ∃ y2 : Option V, σ' = [some (.ref b), some (.ref l), y2] ∧ Same H H' ∧ H' l = some (.lst ((shiftAll (mv.sh.take j) (bump cs mv.pl (-1))).map V.int))) ⟨none, rfl, s1, by rw [upd_same]; rfl⟩ ?_ ?_ ?_⟩
  · rintro j σ' H' _ ⟨y2, rfl, sm, _⟩
    exact sm.seq hsa
  · rintro j x σ' H' hx ⟨y2, rfl, sm, el⟩
    obtain ⟨p, hp, dx⟩ := dpa_map_at hxs hx
    obtain ⟨t, rfl, ht0⟩ := dp_sh dx
    have ht := Same.seqT sm ht0
    have p1 := hf.sh.fst p (List.mem_of_getElem? hp)
    have p2 := hf.sh.snd p (List.mem_of_getElem? hp)
    have ln : (shiftAll (mv.sh.take j) (bump cs mv.pl (-1))).length = cs.length := by rw [shiftAll_len, bump_len]
    rw [take_snoc hp, shiftAll_snoc]
    generalize shiftAll (mv.sh.take j) (bump cs mv.pl (-1)) = c1 at el ln ⊢
    dsimp only [gName]
    refine ⟨_, rfl, _, rfl, _, _, _, _, rfl, rfl, ht, atI_nat (j := 1) rfl, _, _, _, _, rfl, rfl, sq el, at_gd rfl (by omega), _, rfl, _, rfl, _, _, _, _, rfl, rfl, ht, atI_nat (j := 0) rfl, _, _, _, _, rfl, rfl, sq el, at_gd rfl (by omega), _, _, rfl, rfl, _, rfl, _, rfl, _, _, _, _, rfl, rfl, ht, atI_nat (j := 1) rfl, l, _, _, _, rfl, rfl, el, ixN_nat (by rw [List.length_map]; omega), ?_⟩
    rw [set_int]
    have s2 : ∀ o, Same H (upd H' l o) := fun o => Same.mut sm nl
    refine ⟨_, rfl, _, rfl, _, _, _, _, rfl, rfl, Same.seqT (s2 _) ht0, atI_nat (j := 0) rfl, l, _, _, _, rfl, rfl, upd_same, ixN_nat (by rw [List.length_map, List.length_set]; omega), ?_⟩
    rw [set_int]
    exact ⟨_, rfl, Same.mut (s2 _) nl, upd_same⟩
  · rintro σ' H' ⟨y2, rfl, sm, el⟩
    rw [List.take_of_length_le (by omega)] at el
    have ln : (mv.mid cs).length = cs.length := mid_len mv cs
    change H' l = some (.lst ((mv.mid cs).map V.int)) at el
    have hb1 := Same.seqT sm hb
    refine ⟨_, rfl, _, rfl, _, _, _, _, rfl, rfl, hb1, atI_nat (j := 3) rfl, _, _, _, _, rfl, rfl, sq el, at_gd rfl (by rw [ln]; exact hf.np), _, _, rfl, rfl, _, rfl, _, rfl, _, _, _, _, rfl, rfl, hb1, atI_nat (j := 3) rfl, l, _, _, _, rfl, rfl, el, ixN_nat (by rw [List.length_map, ln]; exact hf.np), ?_⟩
    rw [set_int]
    have s2 : ∀ o, Same H (upd H' l o) := fun o => Same.mut sm nl
    refine ⟨fun σ' H' => σ' = [some (.ref b), some (.ref l), y2] ∧ Same H H' ∧ H' l = some (.lst ((mv.aft cs).map V.int)), ?_, ?_⟩
    · refine ⟨_, rfl, _, _, _, _, rfl, rfl, Same.seqT (s2 _) hb, atI_nat (j := 4) rfl, rfl, _, rfl, ?_⟩
      have hsd := hf.sd
      unfold MvT.aft
      cases esd : mv.sd with
      | none => exact iteF ⟨rfl, Same.mut sm nl, upd_same⟩
      | some d =>
        have hd := hsd d esd
        rw [esd] at hb
        refine iteT ?_
        refine ⟨_, rfl, _, rfl, _, _, _, _, rfl, rfl, Same.seqT (s2 _) hb, atI_nat (j := 4) rfl, _, _, _, _, rfl, rfl, sq upd_same, at_gd rfl (by rw [List.length_set, ln]; exact hd), _, _, rfl, rfl, _, rfl, _, rfl, _, _, _, _, rfl, rfl, Same.seqT (s2 _) hb, atI_nat (j := 4) rfl, l, _, _, _, rfl, rfl, upd_same, ixN_nat (by rw [List.length_map, List.length_set, ln]; exact hd), ?_⟩
        rw [set_int]
        exact ⟨rfl, Same.mut (Same.mut sm nl) nl, upd_same⟩
    · rintro σ' H2 ⟨rfl, sm2, el2⟩
      refine ⟨_, rfl, _, _, _, _, rfl, rfl, Same.seqT sm2 hb, atI_nat (j := 2) rfl, _, rfl, szc 2, fun p np => ?_⟩
      have pl : p ≠ l := fun e => by rw [e, el2] at np; cases np
      exact q _ p (sm2.trans (same_new np)) ⟨l, sm2.free np, nl, Ne.symm pl, upd_same, by rw [upd_ne (Ne.symm pl)]; exact el2⟩
end
section
variable {P : Program} {w : World} {K : PySem.W.Frag} {mg : Str → Option Value} {base : Heap}
theorem nw_ho {o : Addr} {u : HO} {H H' : Hp} (e : H o = some u) : Same (Nw H H') (Ho o H') := fun b x h => by
  obtain ⟨h1, h2⟩ := nw_some h
  have hne : b ≠ o := fun z => by rw [z, e] at h1; cases h1
  unfold Ho
  rw [if_neg hne]
  exact h2
theorem rep_one (n : Nat) (x : V) : (List.replicate n [x]).flatten = List.replicate n x := by
  induction n with
  | zero => rfl
  | succ n ih =>
    show x :: (List.replicate n [x]).flatten = x :: List.replicate n x
    rw [ih]
theorem rep_map (n : Nat) (x : Int) : List.replicate n (V.int x) = (List.replicate n x).map V.int := by rw [List.map_replicate]
abbrev s_law_pairs : Stmt := topS 15
theorem sc_law_pairs : FnScope ["cell", "places", "draws", "first", "second", "place"] ["cell", "places"] (defScope s_law_pairs) := ⟨rfl, rfl, rfl, by decide +kernel, rfl, by decide +kernel, by decide +kernel⟩
-- _law_pairs slots: cell=0 places=1(cell) draws=2(cell) first=3 second=4(cell) place=5(None) globals: _law_draws range len
def pairLims (P : Nat) : List Int := ([3] ++ List.replicate P 2) ++ List.replicate P (P : Int)
def pairFst (ds : List Int) (P : Nat) : List Nat := (List.range P).filter fun j => decide (ds.getD (1 + j) 0 = 1)
def pairSnd (ds : List Int) (P : Nat) : List Nat := (List.range P).filter fun j => decide (ds.getD (1 + j) 0 = 0)
theorem range_asc (P : Nat) (f : Nat → Bool) : ((List.range P).filter f).Pairwise (· < ·) := List.Pairwise.sublist List.filter_sublist List.pairwise_lt_range
def spPairs (K : PySem.W.Frag) : Sp := fun vs H Q _ => ∃ (c : Int) (n : Nat), vs = [.int c, nV n] ∧ 1 ≤ n ∧ n ≤ 6 ∧
  ∀ H' v sh, Same H H' → Dp K (Nw H H') v (.list (sh.map shD)) → ShOk sh n → sh.length ≤ 6 → Q v H'
theorem fd_law_pairs {f : Addr} {fd : FuncData} (F : Fun K "_law_pairs" "_law_pairs" s_law_pairs f fd) (m : mg "_law_pairs" = some (.ref f)) (B : Bt mg) (D_law_draws : Fd P w K mg base "_law_draws" ["cell", "limits"] 1 (spDraws K)) : Fd P w K mg base "_law_pairs" ["cell", "places"] 2 (spPairs K) := by
  refine ⟨f, fd, F.ok sc_law_pairs (fun vs H Q E h => ?_) (fun cdv A outer s H vs Q E hr h => ?_), m, F.kp, F.binds (ps := ["cell", "places"]) fun _ _ _ _ _ _ us hl => match us, hl with | [_, _], _ => rfl⟩
  · obtain ⟨c, n, rfl, _⟩ := h
    rfl
  obtain ⟨c, n, rfl, h1, h6, q⟩ := h
  refine ⟨_, (pss_cons (ps_set (i := 2) sc_law_pairs.nd rfl (Or.inr rfl) (pe_fn D_law_draws (hr.mono (by decide)) rfl (pa_cons (pv 0) (pa_cons (pe_op (opCat K) (pe_op (opCat K) (pe_lst (pa_cons pe_int pa_nil)) (pe_op op_rep (pe_lst (pa_cons pe_int pa_nil)) (pv 1))) (pe_op op_rep (pe_lst (pa_cons (pv 1) pa_nil)) (pv 1))) pa_nil))))
 (pss_cons (ps_setLc (i := 3) (own := [("place", 5)]) (g := gName 5) (by rfl) sc_law_pairs.nd rfl rfl (sw_true rfl rfl rfl (by decide +kernel)) (pi_range1 rfl B.range (pa_cons (pv 1) pa_nil)) (blkOk_by (own := [("place", 5)]) (N := ["cell", "places", "draws", "first", "second", "place"]) (sc := (defScope s_law_pairs)) (by decide +kernel)) (fun _ _ _ _ _ => (pg_name (i := 5) sc_law_pairs.nd rfl (Or.inl rfl))) (fun _ _ _ _ _ => (pts_one (pt_cmpR op_eq (pe_ix (ixL K) (pv 2) (pe_op op_add pe_int (pv 5)) (fun _ _ => rfl)) pe_int (nomark _)))) (fun _ _ _ _ _ => (pv 5)))
 (pss_cons (ps_set (i := 4) sc_law_pairs.nd rfl (Or.inr rfl) (pe_lc (own := [("place", 5)]) (g := gName 5) (by rfl) sc_law_pairs.nd (pi_range1 rfl B.range (pa_cons (pv 1) pa_nil)) (blkOk_by (own := [("place", 5)]) (N := ["cell", "places", "draws", "first", "second", "place"]) (sc := (defScope s_law_pairs)) (by decide +kernel)) (fun _ _ _ _ _ => (pg_name (i := 5) sc_law_pairs.nd rfl (Or.inl rfl))) (fun _ _ _ _ _ => (pts_one (pt_cmpR op_eq (pe_ix (ixL K) (pv 2) (pe_op op_add pe_int (pv 5)) (fun _ _ => rfl)) pe_int (nomark _)))) (fun _ _ _ _ _ => (pv 5))))
 (pss_cons (ps_if (PW.pt (pw_or (pt_cmpR op_gt (pe_ix (ixL K) (pv 2) pe_int (fun _ _ => rfl)) pe_int (nomark _)) (pw_or (pt_cmpR op_eq (pe_callB (cLen K) (by rfl) B.len PySem.boot_len (pa_cons (pv 3) pa_nil)) pe_int (nomark _)) (pw_or1 (pt_cmpR op_eq (pe_callB (cLen K) (by rfl) B.len PySem.boot_len (pa_cons (pv 4) pa_nil)) pe_int (nomark _))))))
 (pss_one (ps_ret (pe_lst pa_nil)))
 pss_nil)
 (pss_one (ps_ret (pe_lc (own := [("place", 5)]) (g := gName 5) (by rfl) sc_law_pairs.nd (piL K (pv 3)) (blkOk_by (own := [("place", 5)]) (N := ["cell", "places", "draws", "first", "second", "place"]) (sc := (defScope s_law_pairs)) (by decide +kernel)) (fun _ _ _ _ _ => (pg_name (i := 5) sc_law_pairs.nd rfl (Or.inl rfl))) (fun _ _ _ _ _ => pts_nil) (fun _ _ _ _ _ => (pe_tup (pa_cons (pv 5) (pa_cons (pe_ix (ixL K) (pv 4) (pe_op op_mod (pe_callTy call_int1 (by rfl) B.int (by decide +kernel) (pa_cons (pe_ix (ixL K) (pv 2) (pe_op op_add (pe_op op_add pe_int (pv 1)) (pv 5)) (fun _ _ => rfl)) pa_nil)) (pe_callB (cLen K) (by rfl) B.len PySem.boot_len (pa_cons (pv 4) pa_nil))) (fun _ _ => rfl)) pa_nil))))))))))), ?_⟩
  -- the limits
  refine ⟨_, rfl, szc 1, fun p1 n1 => ⟨szc 1, fun p2 n2 => ⟨_, rfl, p2, _, _, rfl, rfl, upd_same, by omega, by omega, sz (by show 1 * n ≤ _; omega), fun p3 n3 => ?_⟩⟩⟩
  rw [rep_one, show ((n : Int)).toNat = n from rfl]
  have e1 : (upd (upd (upd H p1 (.lst [.int 3])) p2 (.lst [.int 2])) p3 (.lst (List.replicate n (V.int 2)))) p1 = some (.lst [.int 3]) := (same_new n3) _ _ ((same_new n2) _ _ upd_same)
  have s3 : Same H (upd (upd (upd H p1 (.lst [.int 3])) p2 (.lst [.int 2])) p3 (.lst (List.replicate n (V.int 2)))) := ((same_new n1).trans (same_new n2)).trans (same_new n3)
  refine ⟨_, _, _, _, rfl, rfl, sq e1, sq upd_same, sz (by rw [List.length_replicate]; show 1 + n ≤ _; omega), fun p4 n4 => ?_⟩
  have s4 := s3.trans (same_new (o := HO.lst ([V.int 3] ++ List.replicate n (V.int 2))) n4)
  have e4 : (upd (upd (upd (upd H p1 (.lst [.int 3])) p2 (.lst [.int 2])) p3 (.lst (List.replicate n (V.int 2)))) p4 (.lst ([V.int 3] ++ List.replicate n (V.int 2)))) p4 = _ := upd_same
  generalize upd (upd (upd (upd H p1 (.lst [.int 3])) p2 (.lst [.int 2])) p3 (.lst (List.replicate n (V.int 2)))) p4 (.lst ([V.int 3] ++ List.replicate n (V.int 2))) = H4 at s4 e4 ⊢
  refine ⟨_, rfl, szc 1, fun p5 n5 => ⟨_, rfl, p5, _, _, rfl, rfl, upd_same, by omega, by omega, sz (by show 1 * n ≤ _; omega), fun p6 n6 => ?_⟩⟩
  rw [rep_one, show ((n : Int)).toNat = n from rfl]
  have s6 := (same_new (o := HO.lst [nV n]) n5).trans (same_new (o := HO.lst (List.replicate n (nV n))) n6)
  refine ⟨_, _, _, _, rfl, rfl, sq (s6 _ _ e4), sq upd_same, sz (by rw [List.length_append, List.length_replicate, List.length_replicate]; show 1 + n + n ≤ _; omega), fun p7 n7 => ?_⟩
  have lims : ([V.int 3] ++ List.replicate n (V.int 2)) ++ List.replicate n (nV n) = (pairLims n).map V.int := by
    unfold pairLims
    rw [List.map_append, List.map_append, rep_map, rep_map]
    rfl
  rw [lims]
  have ll : (pairLims n).length = 1 + n + n := by unfold pairLims; rw [List.length_append, List.length_append, List.length_replicate, List.length_replicate]; rfl
  have lm : ∀ x ∈ pairLims n, 0 < x ∧ x < 1073741824 := by
    intro x hx
    unfold pairLims at hx
    rcases List.mem_append.mp hx with hx | hx
    · rcases List.mem_append.mp hx with hx | hx
      · rw [List.mem_singleton.mp hx]; decide
      · rw [List.eq_of_mem_replicate hx]; decide
    · rw [List.eq_of_mem_replicate hx]; omega
  refine ⟨p7, c, pairLims n, rfl, sq upd_same, lm, by omega, fun H1 pd ds s1 npd ed dk => ?_⟩
  have sm : Same H H1 := (s4.trans s6).trans ((same_new n7).trans s1)
  have dl := dk.len
  rw [ll] at dl
  have dlast : ∀ j, j < n → 0 ≤ ds.getD (1 + n + j) 0 := fun j hj => by
    have hj2 : 1 + n + j < (pairLims n).length := by omega
    obtain ⟨d, hd, h0, _⟩ := dk.at (List.getElem?_eq_getElem hj2)
    rw [gd (by omega)] at hd
    cases hd
    exact h0
  clear s6 n7 e4 n6 n5 s4 e1 s3 n4 n3 n2 n1 s1 npd
  -- first
  dsimp only [gName]
  have hz : ∀ j : Nat, (1 : Int) + (0 + (j : Int)) = ((1 + j : Nat) : Int) := fun j => by omega
  refine ⟨_, rfl, _, rfl, by omega, by omega, fun D nD => lc_range (lo := 0) (n := n) (fun i H' => Same H1 H' ∧ H' D = some (.lst (((List.range i).filter fun j => decide (ds.getD (1 + j) 0 = 1)).map nV))) ⟨same_new nD, upd_same⟩ ?_ ?_⟩
  · rintro i H' hi ⟨sx, eD⟩
    refine ⟨rfl, _, rfl, _, rfl, _, _, rfl, rfl, _, _, _, _, rfl, rfl, sx.seq (sq ed), at_gd (hz i) (by omega), rfl, _, rfl, ite2 (fun e => ?_) (fun e => ?_)⟩
    · have e2 : decide (ds.getD (1 + i) 0 = 1) = true := decide_eq_true (V.int.inj (of_decide_eq_true e))
      refine ⟨_, rfl, _, eD, ?_, Same.mut sx nD, ?_⟩
      · rw [List.length_map]
        have := filt_len i fun j => decide (ds.getD (1 + j) 0 = 1)
        exact szl (by omega)
      · rw [upd_same, filt_yes (f := fun j => decide (ds.getD (1 + j) 0 = 1)) e2, List.map_append, Int.zero_add]
        rfl
    · have e2 : decide (ds.getD (1 + i) 0 = 1) = false := decide_eq_false fun z => e (decide_eq_true (by rw [z]))
      refine ⟨sx, ?_⟩
      rw [eD, filt_no (f := fun j => decide (ds.getD (1 + j) 0 = 1)) e2]
  rintro H2 ⟨s2, e2⟩
  change H2 D = some (.lst ((pairFst ds n).map nV)) at e2
  -- second
  dsimp only [gName]
  refine ⟨_, rfl, _, rfl, by omega, by omega, fun D2 nD2 => lc_range (lo := 0) (n := n) (fun i H' => Same H2 H' ∧ H' D2 = some (.lst (((List.range i).filter fun j => decide (ds.getD (1 + j) 0 = 0)).map nV))) ⟨same_new nD2, upd_same⟩ ?_ ?_⟩
  · rintro i H' hi ⟨sx, eD⟩
    refine ⟨rfl, _, rfl, _, rfl, _, _, rfl, rfl, _, _, _, _, rfl, rfl, (s2.trans sx).seq (sq ed), at_gd (hz i) (by omega), rfl, _, rfl, ite2 (fun e => ?_) (fun e => ?_)⟩
    · have e2 : decide (ds.getD (1 + i) 0 = 0) = true := decide_eq_true (V.int.inj (of_decide_eq_true e))
      refine ⟨_, rfl, _, eD, ?_, Same.mut sx nD2, ?_⟩
      · rw [List.length_map]
        have := filt_len i fun j => decide (ds.getD (1 + j) 0 = 0)
        exact szl (by omega)
      · rw [upd_same, filt_yes (f := fun j => decide (ds.getD (1 + j) 0 = 0)) e2, List.map_append, Int.zero_add]
        rfl
    · have e2 : decide (ds.getD (1 + i) 0 = 0) = false := decide_eq_false fun z => e (decide_eq_true (by rw [z]))
      refine ⟨sx, ?_⟩
      rw [eD, filt_no (f := fun j => decide (ds.getD (1 + j) 0 = 0)) e2]
  rintro H3 ⟨s3, e3⟩
  change H3 D2 = some (.lst ((pairSnd ds n).map nV)) at e3
  have e2' := s3 _ _ e2
  have s13 := s2.trans s3
  have smx := sm.trans s13
  have fl : (pairFst ds n).length ≤ n := filt_len _ _
  dsimp only [gName]
  -- the test
  have sed := s13.seq (sq (K := K) ed)
  have t1 : Ans (tTest (tOp (rI0 fun i j => .bl (decide (i > j))) (tOp (rIxL K) (tVar 2) (tC (V.int 0))) (tC (V.int 0)))) [some (.int c), some (nV n), some (.ref pd), some (.ref D), some (.ref D2), none] H3 (decide (ds.getD 0 0 > 0)) := fun Q q => ⟨_, rfl, _, _, _, _, rfl, rfl, sed, at_gd (j := 0) rfl (by omega), _, _, rfl, rfl, _, rfl, q⟩
  have t2 : ∀ (k : Nat) (A : Addr) (xs : List Nat), [some (V.int c), some (nV n), some (.ref pd), some (.ref D), some (.ref D2), none][k]? = some (some (.ref A)) → H3 A = some (.lst (xs.map nV)) → Ans (tTest (tOp rEq (tCB (rLenQ K) (tCons (tVar k) tNil)) (tC (V.int 0)))) [some (.int c), some (nV n), some (.ref pd), some (.ref D), some (.ref D2), none] H3 (decide (xs.length = 0)) := fun k A xs hk hA Q q => by
    refine ⟨_, hk, A, _, rfl, .inl (sq hA), rfl, _, rfl, ?_⟩
    rw [show decide (V.int ((xs.map nV).length : Nat) = V.int 0) = decide (xs.length = 0) from decide_eq_decide.mpr ⟨fun h => by have := V.int.inj h; rw [List.length_map] at this; omega, fun h => by rw [List.length_map, h]; rfl⟩]
    exact q
  refine ifR (ansOr t1 (ansOr (t2 3 D _ rfl e2') (t2 4 D2 _ rfl e3))) (fun hb => ?_) (fun hb => ?_)
  · refine ⟨sz (by decide), fun p np => ?_⟩
    refine q _ _ [] (smx.trans (same_new np)) (.lst (sq ?_) .nil) ⟨.nil, fun p hp => (by cases hp), fun p hp => (by cases hp), fun p hp => (by cases hp)⟩ (by decide)
    rw [nw_at (smx.free np)]
    exact upd_same
  · have sn : (pairSnd ds n).length ≠ 0 := fun h => by rw [h, decide_eq_true rfl, Bool.or_true, Bool.or_true] at hb; cases hb
    have sn1 : (pairSnd ds n).length ≤ n := filt_len _ _
    refine ⟨_, rfl, D, rfl, ⟨_, sq e2'⟩, fun A nA => lc_list (xs := (pairFst ds n).map nV) (fun i H' => Same H3 H' ∧ ∃ zs, H' A = some (.lst zs) ∧ zs.length = i ∧ DpAll K (Ho A H') zs ((((pairFst ds n).take i).map fun j => (j, (pairSnd ds n).getD (ds.getD (1 + n + j) 0 % ((pairSnd ds n).length : Int)).toNat 0)).map shD) ∧ DpAll K (Nw H3 (Ho A H')) zs ((((pairFst ds n).take i).map fun j => (j, (pairSnd ds n).getD (ds.getD (1 + n + j) 0 % ((pairSnd ds n).length : Int)).toNat 0)).map shD)) ⟨same_new nA, [], upd_same, rfl, .nil, .nil⟩ (fun _ H' _ p => p.1.seq (sq e2')) ?_ ?_⟩
    · rintro i x H5 hx ⟨s5, zs, eA, zl, dz, dzn⟩
      obtain ⟨j, hj, rfl⟩ := get_map_inv hx
      have hi : i < (pairFst ds n).length := (List.getElem?_eq_some_iff.mp hj).1
      have hjn : j < n := by
        have := List.mem_of_getElem? hj
        unfold pairFst at this
        exact List.mem_range.mp (List.mem_filter.mp this).1
      have hz2 : (1 : Int) + (n : Int) + (j : Int) = ((1 + n + j : Nat) : Int) := by omega
      have slp : (0 : Int) < ((pairSnd ds n).length : Int) := by omega
      have md := mod_in (ds.getD (1 + n + j) 0) slp
      obtain ⟨k, ek⟩ : ∃ k : Nat, ds.getD (1 + n + j) 0 % ((pairSnd ds n).length : Int) = (k : Int) := ⟨_, (Int.toNat_of_nonneg md.1).symm⟩
      have hk : k < (pairSnd ds n).length := by omega
      have gk : ((pairSnd ds n).map nV)[k]? = some (nV ((pairSnd ds n).getD k 0)) := by
        rw [List.getElem?_map, List.getD_eq_getElem?_getD, List.getElem?_eq_getElem hk]
        rfl
      refine ⟨rfl, _, rfl, _, rfl, _, rfl, _, rfl, _, _, rfl, rfl, _, rfl, _, _, rfl, rfl, _, _, _, _, rfl, rfl, s5.seq sed, at_gd hz2 (by omega), .inl ⟨_, rfl, ?_⟩⟩
      refine ⟨_, rfl, D2, _, rfl, .inl (s5.seq (sq e3)), _, _, rfl, rfl, ?_, _, _, _, _, rfl, rfl, s5.seq (sq e3), at_n (j := k) ?_ gk, szc 2, fun t nt => ?_⟩
      · show (0 : Int) < (((pairSnd ds n).map nV).length : Nat)
        rw [List.length_map]; exact slp
      · show ds.getD (1 + n + j) 0 % (((pairSnd ds n).map nV).length : Nat) = (k : Int)
        rw [List.length_map]; exact ek
      have s6 := same_new (o := HO.tup [nV j, nV ((pairSnd ds n).getD k 0)]) nt
      have tA : t ≠ A := fun e => by rw [e, eA] at nt; cases nt
      have nt3 : H3 t = none := s5.free nt
      have ho2 : ∀ u, Ho A (upd (upd H5 t (.tup [nV j, nV ((pairSnd ds n).getD k 0)])) A u) t = some (.tup [nV j, nV ((pairSnd ds n).getD k 0)]) := fun u => by
        unfold Ho
        rw [if_neg tA, upd_ne tA]
        exact upd_same
      have dn : ∀ u, Dp K (Ho A (upd (upd H5 t (.tup [nV j, nV ((pairSnd ds n).getD k 0)])) A u)) (.ref t) (shD (j, (pairSnd ds n).getD k 0)) := fun u => .tup (st (ho2 u)) (.cons (.int _) (.cons (.int _) .nil))
      have dn2 : ∀ u, Dp K (Nw H3 (Ho A (upd (upd H5 t (.tup [nV j, nV ((pairSnd ds n).getD k 0)])) A u))) (.ref t) (shD (j, (pairSnd ds n).getD k 0)) := fun u => .tup (st (by rw [nw_at nt3]; exact ho2 u)) (.cons (.int _) (.cons (.int _) .nil))
      have es : ((((pairFst ds n).take (i + 1)).map fun j => (j, (pairSnd ds n).getD (ds.getD (1 + n + j) 0 % ((pairSnd ds n).length : Int)).toNat 0)).map shD) = ((((pairFst ds n).take i).map fun j => (j, (pairSnd ds n).getD (ds.getD (1 + n + j) 0 % ((pairSnd ds n).length : Int)).toNat 0)).map shD) ++ [shD (j, (pairSnd ds n).getD k 0)] := by
        rw [take_snoc hj, List.map_append, List.map_append]
        show _ ++ [shD (j, (pairSnd ds n).getD (ds.getD (1 + n + j) 0 % ((pairSnd ds n).length : Int)).toNat 0)] = _
        rw [ek]
        rfl
      refine ⟨zs, s6 _ _ eA, szl (by omega), Same.mut (s5.trans s6) nA, zs ++ [.ref t], upd_same, by rw [List.length_append, zl]; rfl, ?_, ?_⟩
      · rw [es]
        exact dpa_app (dpAll_mono ((ho_same s6).trans ho_mut) dz) (.cons (dn _) .nil)
      · rw [es]
        exact dpa_app (dpAll_mono (nw_mono (Same.refl _) ((ho_same s6).trans ho_mut)) dzn) (.cons (dn2 _) .nil)
    · rintro H5 ⟨s5, zs, eA, zl, dz, dzn⟩
      rw [List.length_map, List.take_length] at dz dzn
      refine q _ _ _ (smx.trans s5) (.lst (sq ?_) (dpAll_mono ?_ dzn)) ?_ ?_
      · rw [nw_at (smx.free nA)]
        exact eA
      · exact (nw_mono smx ho_out)
      · have fs : ((pairFst ds n).map fun j => (j, (pairSnd ds n).getD (ds.getD (1 + n + j) 0 % ((pairSnd ds n).length : Int)).toNat 0)).map (·.1) = pairFst ds n := by
          rw [List.map_map]
          exact List.map_id' _
        have sm : ∀ j, (pairSnd ds n).getD (ds.getD (1 + n + j) 0 % ((pairSnd ds n).length : Int)).toNat 0 ∈ pairSnd ds n := fun j => by
          have md := mod_in (ds.getD (1 + n + j) 0) (show (0 : Int) < ((pairSnd ds n).length : Int) by omega)
          have hk : (ds.getD (1 + n + j) 0 % ((pairSnd ds n).length : Int)).toNat < (pairSnd ds n).length := by omega
          rw [List.getD_eq_getElem?_getD, List.getElem?_eq_getElem hk]
          exact List.getElem_mem hk
        refine ⟨by rw [fs]; exact range_asc n _, fun p hp => ?_, fun p hp => ?_, fun p hp r hr e => ?_⟩
        · obtain ⟨j, hj, rfl⟩ := List.mem_map.mp hp
          exact List.mem_range.mp (List.mem_filter.mp hj).1
        · obtain ⟨j, hj, rfl⟩ := List.mem_map.mp hp
          exact List.mem_range.mp (List.mem_filter.mp (sm j)).1
        · obtain ⟨j, hj, rfl⟩ := List.mem_map.mp hp
          obtain ⟨j2, hj2, rfl⟩ := List.mem_map.mp hr
          have a1 := of_decide_eq_true (List.mem_filter.mp (sm j)).2
          have a2 := of_decide_eq_true (List.mem_filter.mp hj2).2
          have e' : (pairSnd ds n).getD (ds.getD (1 + n + j) 0 % ((pairSnd ds n).length : Int)).toNat 0 = j2 := e
          rw [e'] at a1
          rw [a1] at a2
          exact absurd a2 (by decide)
      · rw [List.length_map]; omega
end
section
variable {P : Program} {w : World} {K : PySem.W.Frag} {mg : Str → Option Value} {base : Heap}
/-! ### such data can be compared and shown -/
theorem nD_nc {n m : Nat} (h : n < 100) : NcD (nD n) 1 m := NcD.int (by omega)
theorem ints_nc {m : Nat} : ∀ {ns : List Int}, (∀ n ∈ ns, n.natAbs < 10 ^ 7) → NcL (ns.map PyData.int) ns.length m
  | [], _ => .nil
  | n :: ns, h => by
    have := NcL.cons (NcD.int (m := m) (h n List.mem_cons_self)) (ints_nc (m := m) fun x hx => h x (List.mem_cons_of_mem _ hx))
    exact this.mono (by rw [List.length_cons]; omega) (Nat.le_refl _)
theorem sit_nc {s : Int} {ns : List Int} (hs : s.natAbs < 10 ^ 7) (h : ∀ n ∈ ns, n.natAbs < 10 ^ 7) : NcD (sitD s ns) (ns.length + 3) 2 :=
  (NcL.tup (m := 1) (.cons (.int hs) (.cons (NcL.lst (ints_nc (m := 0) h)) (.nil (c := 0))))).mono (by omega) (Nat.le_refl _)
theorem shs_nc : ∀ {sh : List (Nat × Nat)}, (∀ p ∈ sh, p.1 < 100 ∧ p.2 < 100) → NcL (sh.map shD) (3 * sh.length) 1
  | [], _ => .nil
  | p :: r, h => by
    obtain ⟨h1, h2⟩ := h p List.mem_cons_self
    have a : NcD (shD p) 3 1 := NcL.tup (m := 0) (.cons (nD_nc h1) (.cons (nD_nc h2) (.nil (c := 0))))
    exact (NcL.cons a (shs_nc fun x hx => h x (List.mem_cons_of_mem _ hx))).mono (by rw [List.length_cons]; omega) (Nat.le_refl _)
theorem mv_nc {m : MvT} {S P : Nat} (h : m.Fit S P) (hS : S ≤ 100) (hP : P ≤ 100) : NcD m.data (3 * m.sh.length + 7) 3 := by
  have a := shs_nc (sh := m.sh) fun p hp => ⟨by have := h.sh.fst p hp; omega, by have := h.sh.snd p hp; omega⟩
  have b : NcD (sdD m.sd) 1 2 := by
    have := h.sd
    cases e : m.sd with
    | none => exact ⟨rfl, Nat.le_refl _, Nat.zero_le _⟩
    | some d => exact nD_nc (by have := this d e; omega)
  have h1 := h.st
  have h2 := h.pl
  have h3 := h.ns
  have h4 := h.np
  exact (NcL.tup (m := 2) (.cons (nD_nc (by omega)) (.cons (nD_nc (by omega)) (.cons (nD_nc (by omega)) (.cons (nD_nc (by omega)) (.cons b (.cons (NcL.lst a) (.nil (c := 0))))))))).mono (by omega) (Nat.le_refl _)
theorem mvs_nc {S P : Nat} (hS : S ≤ 100) (hP : P ≤ 100) : ∀ {ms : List MvT}, (∀ m ∈ ms, m.Fit S P ∧ m.sh.length ≤ 6) → NcL (ms.map MvT.data) (25 * ms.length) 3
  | [], _ => .nil
  | m :: r, h => by
    obtain ⟨h1, h2⟩ := h m List.mem_cons_self
    exact (NcL.cons (mv_nc h1 hS hP) (mvs_nc hS hP fun x hx => h x (List.mem_cons_of_mem _ hx))).mono (by rw [List.length_cons]; omega) (Nat.le_refl _)
theorem mt_nc {M : MT} (h : M.Ok) (h6 : ∀ m ∈ M.moves, m.sh.length ≤ 6) : NcD M.data 330 5 := by
  have a := mvs_nc (S := M.states) (P := M.places) (by have := h.s2; omega) (by have := h.p2; omega) (ms := M.moves) fun m hm => ⟨h.fit m hm, h6 m hm⟩
  have b := sit_nc (s := (M.sst : Int)) (ns := M.cnts) (by have := h.ss; have := h.s2; omega) fun n hn => by have := h.cb n hn; omega
  have h1 := h.ml
  have h2 := h.cl
  have h3 := h.p2
  have h4 := h.s2
  have h5 := h.cr
  exact (NcL.tup (m := 4) (.cons (nD_nc (by omega)) (.cons (nD_nc (by omega)) (.cons (b.mono (Nat.le_refl _) (by decide)) (.cons (nD_nc (by omega)) (.cons (NcL.lst a) (.nil (c := 0)))))))).mono (by omega) (Nat.le_refl _)
abbrev s_law_machine : Stmt := topS 16
theorem sc_law_machine : FnScope ["cell", "cells", "shifting", "draws", "states", "places", "moves", "k", "part", "started", "shifts", "move"] ["cell", "cells", "shifting"] (defScope s_law_machine) := ⟨rfl, rfl, rfl, by decide +kernel, rfl, by decide +kernel, by decide +kernel⟩
-- _law_machine slots: cell=0 cells=1 shifting=2 draws=3 states=4 places=5 moves=6 k=7 part=8 started=9 shifts=10 move=11 globals: _law_draws range min len int _law_pairs
def spMach (K : PySem.W.Frag) : Sp := fun vs H Q _ => ∃ (c : Int) (a : Addr) (ns : List Int) (b : Bool), vs = [.int c, .ref a, .bl b] ∧ SqL K H a (ns.map V.int) ∧ ns.length ≤ 100 ∧
  ∀ H' v (M : MT), Same H H' → Dp K H' v M.data → M.Ok → (∀ m ∈ M.moves, m.sh.length ≤ 6) → (b = false → ∀ m ∈ M.moves, m.sh = []) → Q v H'
theorem cut_cnts {x0 x1 x2 x3 x4 x5 x6 x7 x8 x9 : V} {P : Nat} (h1 : 1 ≤ P) (h6 : P ≤ 6) : cutV [x0, x1, x2, x3, x4, x5, x6, x7, x8, x9] (some 4) (some (4 + (P : Int))) = [x4, x5, x6, x7, x8, x9].take P := by
  have : P = 1 ∨ P = 2 ∨ P = 3 ∨ P = 4 ∨ P = 5 ∨ P = 6 := by omega
  rcases this with rfl | rfl | rfl | rfl | rfl | rfl <;> rfl
theorem eqv_any {ds : List PyData} {d : PyData} (h : (ds.any fun z => PyData.eqv z d) = false) (e : PyData.eqv d d = true) : d ∉ ds := fun hm => by
  have : (ds.any fun z => PyData.eqv z d) = true := List.any_eq_true.mpr ⟨d, hm, e⟩
  rw [this] at h
  cases h
theorem fd_law_machine {f : Addr} {fd : FuncData} (F : Fun K "_law_machine" "_law_machine" s_law_machine f fd) (m : mg "_law_machine" = some (.ref f)) (B : Bt mg) (D_law_draws : Fd P w K mg base "_law_draws" ["cell", "limits"] 1 (spDraws K)) (D_law_pairs : Fd P w K mg base "_law_pairs" ["cell", "places"] 2 (spPairs K)) : Fd P w K mg base "_law_machine" ["cell", "cells", "shifting"] 3 (spMach K) := by
  refine ⟨f, fd, F.ok sc_law_machine (fun vs H Q E h => ?_) (fun cdv A outer s H vs Q E hr h => ?_), m, F.kp, F.binds (ps := ["cell", "cells", "shifting"]) fun _ _ _ _ _ _ us hl => match us, hl with | [_, _, _], _ => rfl⟩
  · obtain ⟨c, a, ns, b, rfl, _⟩ := h
    rfl
  obtain ⟨c, a, ns, b, rfl, hs, hn, q⟩ := h
  refine ⟨_, (pss_cons (ps_set (i := 3) sc_law_machine.nd rfl (Or.inl rfl) (pe_fn D_law_draws (hr.mono (by decide)) rfl (pa_cons (pv 0) (pa_cons (pe_op (opCat K) (pe_lst (pa_cons pe_int (pa_cons pe_int (pa_cons pe_int (pa_cons pe_int pa_nil))))) (pe_op op_rep (pe_lst (pa_cons pe_int pa_nil)) pe_int)) pa_nil))))
 (pss_cons (ps_set (i := 4) sc_law_machine.nd rfl (Or.inl rfl) (pe_op op_add pe_int (pe_ix (ixL K) (pv 3) pe_int (fun _ _ => rfl))))
 (pss_cons (ps_set (i := 5) sc_law_machine.nd rfl (Or.inl rfl) (pe_op op_add pe_int (pe_ix (ixL K) (pv 3) pe_int (fun _ _ => rfl))))
 (pss_cons (ps_set (i := 6) sc_law_machine.nd rfl (Or.inl rfl) (pe_lst pa_nil))
 (pss_cons (ps_for PassesOwn.never rfl (pi_range1 rfl B.range (pa_cons (pe_callB (call_min2 rfl) (by rfl) B.min (by decide +kernel) (pa_cons pe_int (pa_cons (pe_callB (cLen K) (by rfl) B.len PySem.boot_len (pa_cons (pv 1) pa_nil)) pa_nil))) pa_nil)) (pg_name (i := 7) sc_law_machine.nd rfl (Or.inl rfl))
 (pss_cons (ps_set (i := 8) sc_law_machine.nd rfl (Or.inl rfl) (pe_fn D_law_draws (hr.mono (by decide)) rfl (pa_cons (pe_ix (ixL K) (pv 1) (pv 7) (fun _ _ => rfl)) (pa_cons (pe_lst (pa_cons pe_int (pa_cons pe_int (pa_cons pe_int (pa_cons pe_int (pa_cons pe_int (pa_cons (pe_op op_pow pe_int pe_int) pa_nil))))))) pa_nil))))
 (pss_cons (ps_set (i := 9) sc_law_machine.nd rfl (Or.inl rfl) pe_non)
 (C8.pss_cut (ps_if (pt_cmpR op_lt (pe_ix (ixL K) (pv 8) pe_int (fun _ _ => rfl)) pe_int (nomark _))
 (pss_one (ps_set (i := 9) sc_law_machine.nd rfl (Or.inl rfl) (pe_op op_mod (pe_callTy call_int1 (by rfl) B.int (by decide +kernel) (pa_cons (pe_op op_add (pe_ix (ixL K) (pv 8) pe_int (fun _ _ => rfl)) (pe_ix (ixL K) (pv 8) pe_int (fun _ _ => rfl))) pa_nil)) (pv 5))))
 pss_nil)
 (pss_cons (ps_set (i := 10) sc_law_machine.nd rfl (Or.inl rfl) (pe_lst pa_nil))
 (C8.pss_cut (ps_if (pt_val (pv 2))
 (pss_one (ps_set (i := 10) sc_law_machine.nd rfl (Or.inl rfl) (pe_fn D_law_pairs (hr.mono (by decide)) rfl (pa_cons (pe_ix (ixL K) (pv 8) pe_int (fun _ _ => rfl)) (pa_cons (pv 5) pa_nil)))))
 pss_nil)
 (pss_cons (ps_set (i := 11) sc_law_machine.nd rfl (Or.inl rfl) (pe_tup (pa_cons (pe_op op_mod (pe_callTy call_int1 (by rfl) B.int (by decide +kernel) (pa_cons (pe_ix (ixL K) (pv 8) pe_int (fun _ _ => rfl)) pa_nil)) (pv 4)) (pa_cons (pe_op op_mod (pe_callTy call_int1 (by rfl) B.int (by decide +kernel) (pa_cons (pe_ix (ixL K) (pv 8) pe_int (fun _ _ => rfl)) pa_nil)) (pv 5)) (pa_cons (pe_op op_mod (pe_callTy call_int1 (by rfl) B.int (by decide +kernel) (pa_cons (pe_ix (ixL K) (pv 8) pe_int (fun _ _ => rfl)) pa_nil)) (pv 4)) (pa_cons (pe_op op_mod (pe_callTy call_int1 (by rfl) B.int (by decide +kernel) (pa_cons (pe_ix (ixL K) (pv 8) pe_int (fun _ _ => rfl)) pa_nil)) (pv 5)) (pa_cons (pv 9) (pa_cons (pv 10) pa_nil))))))))
 (pss_one (ps_if (pt_cmpR (opNotInD K (hu65 hr)) (pv 11) (pv 6) (by rfl))
 (pss_one (ps_expr (peBm K PySem.F.plainAttrs_list PySem.F.slot_list_append PySem.F.type_list_append mt_append (pv 6) (pa_cons (pv 11) pa_nil))))
 pss_nil)))))))))
 (pss_one (ps_ret (pe_tup (pa_cons (pv 4) (pa_cons (pv 5) (pa_cons (pe_tup (pa_cons (pe_op op_mod (pe_callTy call_int1 (by rfl) B.int (by decide +kernel) (pa_cons (pe_ix (ixL K) (pv 3) pe_int (fun _ _ => rfl)) pa_nil)) (pv 4)) (pa_cons (pe_slice (slL K) (pv 3) (po_some pe_int) (po_some (pe_op op_add pe_int (pv 5)))) pa_nil))) (pa_cons (pe_op op_mod (pe_callTy call_int1 (by rfl) B.int (by decide +kernel) (pa_cons (pe_ix (ixL K) (pv 3) pe_int (fun _ _ => rfl)) pa_nil)) (pv 5)) (pa_cons (pv 6) pa_nil))))))))))))), ?_⟩
  refine ⟨_, rfl, szc 4, fun p1 n1 => ⟨szc 1, fun p2 n2 => ⟨p2, _, _, rfl, rfl, upd_same, by decide, by decide, sz (by decide), fun p3 n3 => ?_⟩⟩⟩
  have e1 : (upd (upd (upd H p1 (.lst [.int 4, .int 6, .int 6, .int 4])) p2 (.lst [.int 3])) p3 (.lst (List.replicate (6 : Int).toNat [V.int 3]).flatten)) p1 = some (.lst [.int 4, .int 6, .int 6, .int 4]) := (same_new n3) _ _ ((same_new n2) _ _ upd_same)
  refine ⟨_, _, _, _, rfl, rfl, sq e1, sq upd_same, sz (by decide), fun p4 n4 => ?_⟩
  refine ⟨p4, c, [4, 6, 6, 4, 3, 3, 3, 3, 3, 3], rfl, sq upd_same, by decide, by decide, fun H1 pd ds s1 npd ed dk => ?_⟩
  have sm : Same H H1 := (((same_new n1).trans (same_new n2)).trans (same_new n3)).trans ((same_new n4).trans s1)
  clear e1 s1 n1 n2 n3 n4 npd
  obtain ⟨x0, r0, rfl, x00, x01, dk⟩ := dk.cons
  obtain ⟨x1, r1, rfl, x10, x11, dk⟩ := dk.cons
  obtain ⟨x2, r2, rfl, x20, x21, dk⟩ := dk.cons
  obtain ⟨x3, r3, rfl, x30, x31, dk⟩ := dk.cons
  obtain ⟨x4, r4, rfl, x40, x41, dk⟩ := dk.cons
  obtain ⟨x5, r5, rfl, x50, x51, dk⟩ := dk.cons
  obtain ⟨x6, r6, rfl, x60, x61, dk⟩ := dk.cons
  obtain ⟨x7, r7, rfl, x70, x71, dk⟩ := dk.cons
  obtain ⟨x8, r8, rfl, x80, x81, dk⟩ := dk.cons
  obtain ⟨x9, r9, rfl, x90, x91, dk⟩ := dk.cons
  obtain rfl := dk.nil
  have sd := sq (K := K) ed
  obtain ⟨S, eS⟩ : ∃ S : Nat, 1 + x0 = (S : Int) := ⟨(1 + x0).toNat, by omega⟩
  obtain ⟨N, eN⟩ : ∃ N : Nat, 1 + x1 = (N : Int) := ⟨(1 + x1).toNat, by omega⟩
  have hS : 1 ≤ S ∧ S ≤ 4 := by omega
  have hN : 1 ≤ N ∧ N ≤ 6 := by omega
  refine ⟨_, rfl, _, _, _, _, rfl, rfl, sd, atI_nat (j := 0) rfl, _, _, rfl, rfl, ?_⟩
  dsimp only [gName]
  rw [eS]
  refine ⟨_, rfl, _, _, _, _, rfl, rfl, sd, atI_nat (j := 1) rfl, _, _, rfl, rfl, ?_⟩
  dsimp only [gName]
  rw [eN]
  refine ⟨sz (by decide), fun o no => ?_⟩
  dsimp only [gName]
  have nl : (ns.map V.int).length = ns.length := List.length_map _
  obtain ⟨n, en, hn⟩ : ∃ n : Nat, (if (((ns.map V.int).length : Nat) : Int) < 12 then (((ns.map V.int).length : Nat) : Int) else 12) = (n : Int) ∧ n ≤ 12 ∧ n ≤ ns.length := by
    rw [nl]
    split
    · exact ⟨ns.length, rfl, by omega, by omega⟩
    · exact ⟨12, rfl, by decide, by omega⟩
  have lims : ∀ x ∈ [4, 6, 4, 6, 9, (10 : Int) ^ (9 : Int).toNat], 0 < x ∧ x < 1073741824 := by decide
  have smo := sm.trans (same_new (o := HO.lst []) no)
  refine ⟨_, rfl, a, _, rfl, .inl (smo.seq hs), _, _, rfl, _, congrArg (fun z => [V.int z]) en, by omega, by omega, for_range (lo := 0) (n := n) (fun i σ' H' => ∃ (y7 y8 y9 y10 y11 : Option V) (ms : List MvT) (xs : List V), σ' = [some (.int c), some (.ref a), some (.bl b), some (.ref pd), some (nV S), some (nV N), some (.ref o), y7, y8, y9, y10, y11] ∧ Same H1 H' ∧ H' o = some (.lst xs) ∧ ms.length ≤ i ∧ DpAll K (Ho o H') xs (ms.map MvT.data) ∧ (∀ m ∈ ms, m.Fit S N ∧ m.sh.length ≤ 6) ∧ ms.Nodup ∧ (b = false → ∀ m ∈ ms, m.sh = [])) ?_ ?_ ?_⟩
  · exact ⟨_, _, _, _, _, [], [], rfl, same_new no, upd_same, Nat.le_refl _, .nil, (fun m hm => by cases hm), .nil, fun _ m hm => by cases hm⟩
  · rintro i σ' H' hi ⟨y7, y8, y9, y10, y11, ms, xs, rfl, s1, eo, ml, dms, fit, nd, nsh⟩
    have hz : (0 : Int) + (i : Int) = (i : Int) := by omega
    have xl := dpa_map_len dms
    refine ⟨_, rfl, _, rfl, _, _, _, _, rfl, rfl, (sm.trans s1).seq hs, at_gd hz (by omega), _, _, rfl, rfl, ⟨by decide, by decide, by decide⟩, szc 6, fun p5 n5 => ⟨p5, _, [4, 6, 4, 6, 9, (10 : Int) ^ (9 : Int).toNat], rfl, sq upd_same, lims, (by show 6 ≤ 1000; decide), fun H2 pp dp s2 np2 ep dkp => ?_⟩⟩
    have s12 := (same_new n5).trans s2
    clear s2 n5 np2
    obtain ⟨y0, r0, rfl, y00, y01, dkp⟩ := dkp.cons
    obtain ⟨y1, r1, rfl, y10', y11', dkp⟩ := dkp.cons
    obtain ⟨y2, r2, rfl, y20, y21, dkp⟩ := dkp.cons
    obtain ⟨y3, r3, rfl, y30, y31, dkp⟩ := dkp.cons
    obtain ⟨y4, r4, rfl, y40, y41, dkp⟩ := dkp.cons
    obtain ⟨y5, r5, rfl, y50, y51, dkp⟩ := dkp.cons
    obtain rfl := dkp.nil
    have sp := sq (K := K) ep
    have eo2 := s12 _ _ eo
    have dms2 := dpAll_mono (ho_same s12) dms
    have s02 := s1.trans s12
    clear dkp dms eo s1 s12
    dsimp only [gName]
    refine ⟨fun σ' H' => ∃ sd : Option Nat, (∀ d, sd = some d → d < N) ∧ σ' = [some (.int c), some (.ref a), some (.bl b), some (.ref pd), some (nV S), some (nV N), some (.ref o), some (.int (0 + (i : Int))), some (.ref pp), some (sdV sd), y10, y11] ∧ H' = H2, ?_, ?_⟩
    · refine ⟨_, rfl, _, _, _, _, rfl, rfl, sp, atI_nat (j := 4) rfl, _, _, rfl, rfl, _, rfl, ite2 (fun e => ?_) (fun e => ?_)⟩
      · have md := mod_in (y4 + y3) (show (0 : Int) < (N : Int) by omega)
        obtain ⟨k, ek⟩ : ∃ k : Nat, (y4 + y3) % (N : Int) = (k : Int) := ⟨_, (Int.toNat_of_nonneg md.1).symm⟩
        refine ⟨_, rfl, _, _, _, _, rfl, rfl, sp, atI_nat (j := 4) rfl, _, rfl, _, _, _, _, rfl, rfl, sp, atI_nat (j := 3) rfl, _, _, rfl, rfl, .inl ⟨_, rfl, _, rfl, _, _, rfl, rfl, (show (0 : Int) < (N : Int) by omega), ?_⟩⟩
        dsimp only [gName]
        rw [ek]
        exact ⟨some k, fun d hd => by cases hd; omega, rfl, rfl⟩
      · exact ⟨none, fun d hd => (by cases hd), rfl, rfl⟩
    rintro σ' H2' ⟨sd', hsd, rfl, rfl⟩
    refine ⟨sz (by decide), fun p6 n6 => ?_⟩
    dsimp only [gName]
    refine ⟨fun σ' H' => ∃ (v : V) (sh : List (Nat × Nat)), σ' = [some (.int c), some (.ref a), some (.bl b), some (.ref pd), some (nV S), some (nV N), some (.ref o), some (.int (0 + (i : Int))), some (.ref pp), some (sdV sd'), some v, y11] ∧ Same H2' H' ∧ Dp K (Ho o H') v (.list (sh.map shD)) ∧ ShOk sh N ∧ sh.length ≤ 6 ∧ (b = false → sh = []), ?_, ?_⟩
    · have s6 := same_new (o := HO.lst []) n6
      refine ⟨_, rfl, b, rfl, ?_⟩
      cases b with
      | true =>
        refine iteT ⟨_, rfl, _, _, _, _, rfl, rfl, s6.seq sp, atI_nat (j := 5) rfl, _, rfl, y5, N, rfl, hN.1, hN.2, fun H4 v sh s4 dv ok l6 => ⟨v, sh, rfl, s6.trans s4, dp_mono (nw_ho (s6 _ _ eo2)) dv, ok, l6, fun z => nomatch z⟩⟩
      | false =>
        exact iteF ⟨.ref p6, [], rfl, s6, dpo_newL eo2 n6 .nil, ⟨.nil, fun p hp => (by cases hp), fun p hp => (by cases hp), fun p hp => (by cases hp)⟩, by decide, fun _ => rfl⟩
    rintro σ' H4 ⟨v, sh, rfl, s4, dv, ok, l6, shn⟩
    have m0 := mod_in y0 (show (0 : Int) < (S : Int) by omega)
    have m1 := mod_in y1 (show (0 : Int) < (N : Int) by omega)
    have m2 := mod_in y2 (show (0 : Int) < (S : Int) by omega)
    have m3 := mod_in y3 (show (0 : Int) < (N : Int) by omega)
    obtain ⟨q0, e0⟩ : ∃ k : Nat, y0 % (S : Int) = (k : Int) := ⟨_, (Int.toNat_of_nonneg m0.1).symm⟩
    obtain ⟨q1, e1⟩ : ∃ k : Nat, y1 % (N : Int) = (k : Int) := ⟨_, (Int.toNat_of_nonneg m1.1).symm⟩
    obtain ⟨q2, e2⟩ : ∃ k : Nat, y2 % (S : Int) = (k : Int) := ⟨_, (Int.toNat_of_nonneg m2.1).symm⟩
    obtain ⟨q3, e3⟩ : ∃ k : Nat, y3 % (N : Int) = (k : Int) := ⟨_, (Int.toNat_of_nonneg m3.1).symm⟩
    have sp4 := s4.seq sp
    have ps : (0 : Int) < (S : Int) := by omega
    have pn : (0 : Int) < (N : Int) := by omega
    refine ⟨_, rfl, _, _, _, _, rfl, rfl, sp4, atI_nat (j := 0) rfl, .inl ⟨_, rfl, _, rfl, _, _, rfl, rfl, ps, ?_⟩⟩
    refine ⟨_, rfl, _, _, _, _, rfl, rfl, sp4, atI_nat (j := 1) rfl, .inl ⟨_, rfl, _, rfl, _, _, rfl, rfl, pn, ?_⟩⟩
    refine ⟨_, rfl, _, _, _, _, rfl, rfl, sp4, atI_nat (j := 2) rfl, .inl ⟨_, rfl, _, rfl, _, _, rfl, rfl, ps, ?_⟩⟩
    refine ⟨_, rfl, _, _, _, _, rfl, rfl, sp4, atI_nat (j := 3) rfl, .inl ⟨_, rfl, _, rfl, _, _, rfl, rfl, pn, ?_⟩⟩
    refine ⟨_, rfl, _, rfl, szc 6, fun t nt => ?_⟩
    dsimp only [gName]
    rw [e0, e1, e2, e3]
    have eo4 := s4 _ _ eo2
    have fitm : (MvT.mk q0 q1 q2 q3 sd' sh).Fit S N := ⟨(by show q0 < S; omega), (by show q1 < N; omega), (by show q2 < S; omega), (by show q3 < N; omega), hsd, ok⟩
    have dt : Dp K (Ho o (upd H4 t (.tup [nV q0, nV q1, nV q2, nV q3, sdV sd', v]))) (.ref t) (MvT.mk q0 q1 q2 q3 sd' sh).data := dpo_newT eo4 nt (.cons (.int _) (.cons (.int _) (.cons (.int _) (.cons (.int _) (.cons (sd_dp _) (.cons dv .nil))))))
    have s5 := same_new (o := HO.tup [nV q0, nV q1, nV q2, nV q3, sdV sd', v]) nt
    have eo5 := s5 _ _ eo4
    have dms5 := dpAll_mono ((ho_same s4).trans (ho_same s5)) dms2
    have s05 := s02.trans (s4.trans s5)
    generalize upd H4 t (.tup [nV q0, nV q1, nV q2, nV q3, sdV sd', v]) = H5 at dt eo5 dms5 s05 ⊢
    have nc1 := mv_nc fitm (by omega) (by omega)
    have ncl := NcL.lst (mvs_nc (S := S) (P := N) (by omega) (by omega) (ms := ms) fit)
    refine ⟨_, rfl, _, rfl, _, _, dp_mono ho_out dt, .lst (sq eo5) (dpAll_mono ho_out dms5), nc1.shaped (by decide), ncl.shaped (by decide), _, rfl, ?_⟩
    cases hany : ((ms.map MvT.data).any fun z => PyData.eqv z (MvT.mk q0 q1 q2 q3 sd' sh).data) with
    | true => exact iteF ⟨_, _, _, _, _, ms, xs, rfl, s05, eo5, by omega, dms5, fit, nd, nsh⟩
    | false =>
      refine iteT ⟨_, rfl, .inl ⟨rfl, _, sq eo5⟩, _, rfl, o, _, _, rfl, rfl, eo5, szl (by omega), ?_⟩
      have hni : MvT.mk q0 q1 q2 q3 sd' sh ∉ ms := fun hm => eqv_any hany nc1.eqv (List.mem_map_of_mem hm)
      refine ⟨_, _, _, _, _, ms ++ [MvT.mk q0 q1 q2 q3 sd' sh], xs ++ [.ref t], rfl, Same.mut s05 no, upd_same, by rw [List.length_append, List.length_singleton]; omega, ?_, ?_, ?_, ?_⟩
      · rw [List.map_append]
        exact dpa_app (dpAll_mono ho_mut dms5) (.cons (dp_mono ho_mut dt) .nil)
      · intro x hx
        rcases List.mem_append.mp hx with hx | hx
        · exact fit x hx
        · rw [List.mem_singleton.mp hx]; exact ⟨fitm, l6⟩
      · refine List.nodup_append.mpr ⟨nd, List.pairwise_singleton _ _, fun x hx y hy e => ?_⟩
        rw [List.mem_singleton.mp hy] at e
        rw [e] at hx
        exact hni hx
      · intro hb x hx
        rcases List.mem_append.mp hx with hx | hx
        · exact nsh hb x hx
        · rw [List.mem_singleton.mp hx]; exact shn hb
  · rintro σ' H' ⟨y7, y8, y9, y10, y11, ms, xs, rfl, s1, eo, ml, dms, fit, nd, nsh⟩
    have m3 := mod_in x3 (show (0 : Int) < (S : Int) by omega)
    have m2 := mod_in x2 (show (0 : Int) < (N : Int) by omega)
    obtain ⟨q3, e3⟩ : ∃ k : Nat, x3 % (S : Int) = (k : Int) := ⟨_, (Int.toNat_of_nonneg m3.1).symm⟩
    obtain ⟨q2, e2⟩ : ∃ k : Nat, x2 % (N : Int) = (k : Int) := ⟨_, (Int.toNat_of_nonneg m2.1).symm⟩
    have ps : (0 : Int) < (S : Int) := by omega
    have pn : (0 : Int) < (N : Int) := by omega
    have sd1 := s1.seq sd
    refine ⟨_, rfl, _, rfl, ?_⟩
    refine ⟨_, rfl, _, _, _, _, rfl, rfl, sd1, atI_nat (j := 3) rfl, .inl ⟨_, rfl, _, rfl, _, _, rfl, rfl, ps, ?_⟩⟩
    refine ⟨_, rfl, _, rfl, _, rfl, _, _, rfl, rfl, _, rfl, pd, _, rfl, sd1, fun p np => ⟨szc 2, fun t nt => ?_⟩⟩
    refine ⟨_, rfl, _, _, _, _, rfl, rfl, ((same_new np).trans (same_new nt)).seq sd1, atI_nat (j := 2) rfl, .inl ⟨_, rfl, _, rfl, _, _, rfl, rfl, pn, ?_⟩⟩
    refine ⟨_, rfl, szc 5, fun r nr => ?_⟩
    have cN : cutV ([x0, x1, x2, x3, x4, x5, x6, x7, x8, x9].map V.int) (some 4) (some (4 + (N : Int))) = ([x4, x5, x6, x7, x8, x9].take N).map V.int := by
      rw [List.map_take]
      exact cut_cnts hN.1 hN.2
    have g : ∀ (cl : List V), cl = ([x4, x5, x6, x7, x8, x9].take N).map V.int → ∀ (a b : Int), a = (q3 : Int) → b = (q2 : Int) → (upd H' p (.lst cl)) t = none → (upd (upd H' p (.lst cl)) t (.tup [.int a, .ref p])) r = none → Q (.ref r) (upd (upd (upd H' p (.lst cl)) t (.tup [.int a, .ref p])) r (.tup [nV S, nV N, .ref t, .int b, .ref o])) := by
      rintro cl rfl a b rfl rfl nt nr
      have s2 := same_new (o := HO.lst (([x4, x5, x6, x7, x8, x9].take N).map V.int)) np
      have s3 := same_new (o := HO.tup [.int (q3 : Int), .ref p]) nt
      have s4 := same_new (o := HO.tup [nV S, nV N, .ref t, .int (q2 : Int), .ref o]) nr
      have s24 := (s2.trans s3).trans s4
      have sit : Sit K _ (.ref t) (q3 : Int) ([x4, x5, x6, x7, x8, x9].take N) := ⟨t, p, rfl, st (s4 _ _ upd_same), (s3.trans s4).seq (sq upd_same)⟩
      have cl : ([x4, x5, x6, x7, x8, x9].take N).length = N := by rw [List.length_take]; show min N 6 = N; omega
      refine q _ _ ⟨S, N, q3, [x4, x5, x6, x7, x8, x9].take N, q2, ms⟩ ((sm.trans s1).trans s24) ?_ ⟨hS.1, hS.2, hN.1, hN.2, (by show q3 < S; omega), cl, ?_, (by show q2 < N; omega), (by show ms.length ≤ 12; omega), fun m hm => (fit m hm).1, nd⟩ (fun m hm => (fit m hm).2) nsh
      · exact .tup (st upd_same) (.cons (.int _) (.cons (.int _) (.cons (sit_dp sit) (.cons (.int _) (.cons (.lst (s24.seq (sq eo)) (dpAll_mono (ho_out.trans s24) dms)) .nil)))))
      · intro x hx
        have hx := List.mem_of_mem_take hx
        simp only [List.mem_cons, List.not_mem_nil, or_false] at hx
        rcases hx with rfl | rfl | rfl | rfl | rfl | rfl <;> omega
    exact g _ cN _ _ e3 e2 nt nr
end
/-! ### exceptions of the program's own -/
/-- what the written part says of an exception's class -/
structure ExcX (K : PySem.W.Frag) (mg : Str → Option Value) (x : Str) (C : Addr) : Prop where
  gC : mg x = some (.ref C)
  exc : PySem.W.excIn K C [.type "ValueError", .type "Exception", .type "BaseException", .type "object"] "ValueError.__new__" = true
  kC : PySem.W.keepIn K (.ref C) = true
  ty : PySem.W.typeIn K (.ref C) = some (.type "type")
  ic : PySem.W.isClsIn K C = true
  self : PySem.W.subIn K (.ref C) (.ref C) = some true
  val : PySem.W.subIn K (.ref C) (.type "ValueError") = some true
  is : ExcC K C
theorem ExcX.sub {K : PySem.W.Frag} {mg : Str → Option Value} {x : Str} {C : Addr} (h : ExcX K mg x C) : PySem.W.subIn K (.ref C) (.type "BaseException") = some true := h.is.hs
theorem kit_ref {K : PySem.W.Frag} {C D : Addr} {b : Bool} (hi : PySem.W.isClsIn K D = true) (ht : PySem.W.typeIn K (.ref D) = some (.type "type")) (hne : C ≠ D) (hs : PySem.W.subIn K (.ref C) (.ref D) = some b) : PySem.W.kitOne K (.ref C) (.ref D) = some b := by
  have e0 : ¬ ((Value.ref C == Value.ref D) = true) := fun z => hne (by cases (beq_iff_eq.mp z); rfl)
  have e2 : ((PySem.W.clsIn K D).isSome && PySem.W.typeIn K (.ref D) == some (.type "type")) = true := by
    have h2' : (PySem.W.clsIn K D).isSome = true := hi
    rw [h2', ht] <;> rfl
  show (if (Value.ref C == Value.ref D) = true then some true else if ((PySem.W.clsIn K D).isSome && PySem.W.typeIn K (.ref D) == some (.type "type")) = true then PySem.W.subIn K (.ref C) (.ref D) else none) = some b
  rw [if_neg e0, if_pos e2]
  exact hs
theorem kit_val {K : PySem.W.Frag} {C : Addr} (hs : PySem.W.subIn K (.ref C) (.type "ValueError") = some true) : PySem.W.kitOne K (.ref C) (.type "ValueError") = some true := by
  show (if (Value.ref C == Value.type "ValueError") = true then some true else if PySem.W.kitMeta "ValueError" = true then PySem.W.subIn K (.ref C) (.type "ValueError") else none) = some true
  rw [if_neg (by intro z; cases (beq_iff_eq.mp z)), if_pos (by decide +kernel)]
  exact hs
theorem exm_own {K : PySem.W.Frag} {mg : Str → Option Value} {x : Str} {C D : Addr} {b : Bool} (hD : ExcX K mg x D) (hs : PySem.W.subIn K (.ref C) (.ref D) = some b) : PySem.W.exmOne K (.ref C) (.ref D) = some b := PySem.W.exm_ref hD.sub hD.is.hd hD.ty hs
/-- isinstance(e, c) and isinstance(e, (c1, c2, ..)), e the exception that the suite holds -/
def rIsEx (K : PySem.W.Frag) (a : Addr) (cls : Value) (d : Option Addr) : List V → Hp → VK → Prop := fun xs H Q => ∃ (D : Addr) (b : Bool), cls = .ref D ∧ d = none ∧ ExcC K D ∧ Q (.bl b) H ∧
  ((∃ (c : V) (cv : Value), xs = [.ref a, c] ∧ ClsV c cv ∧ PySem.W.kitOne K (.ref D) cv = some b) ∨ ∃ (tp : Addr) (cs : List V) (us : List Value), xs = [.ref a, .ref tp] ∧ H tp = some (.tup cs) ∧ Paired ClsV cs us ∧ PySem.W.kitAny K (.ref D) us = some b)
theorem call_isEx {X : Cx} {a : Addr} {cls : Value} {d : Option Addr} {oe : Obj} {pn : List (Addr × Obj)} (hz : Zc cls d oe) (hf : ∃ vs, oe.data = .fields vs) : CallR (X.suite a ((a, oe) :: pn)) (.builtin "isinstance") (rIsEx X.K a cls d) := by
  intro pins s σ H xs us Q I r h
  obtain ⟨D, b, rfl, rfl, C, q, h⟩ := h
  rcases h with ⟨c, cv, rfl, hcv, e⟩ | ⟨tp, cs, ws, rfl, hT, k, e⟩
  · exact call_isE C hz hf pins s σ H _ us Q I r ⟨c, cv, b, rfl, fun u hu => hcv.eq hu, e, q⟩
  · obtain ⟨u1, u2, rfl, r1, r2⟩ := vals2 r
    cases (show u2 = Value.ref tp from r2)
    cases (show u1 = Value.ref a from r1)
    obtain ⟨hget, _⟩ := I.pin (a, oe) (List.mem_append.mpr (.inl List.mem_cons_self))
    obtain ⟨vs, hv⟩ := hf
    have J : PySem.W.InstAt s.heap a oe D none := by
      obtain ⟨oc, od, oda, osl⟩ := oe
      obtain ⟨h1, h2⟩ := hz
      dsimp only at h1 h2 hv
      subst h1 h2 hv
      exact ⟨hget, rfl, rfl, trivial⟩
    obtain ⟨_, its, rv, o, h1, h2, n, h3⟩ := (show ObjOk X.prog X.w H s.heap tp (.tup cs) from I.hok tp _ hT)
    have e3 := ClsV.all k rv
    subst e3
    obtain ⟨oc, od, dt, sl⟩ := o
    simp only at h2 h3
    subst h2 h3
    exact PySem.W.kia_tup (PySem.W.handS_kitx_exc C.hg C.hk C.hs C.hd C.ha C.hn C.ht C.hm) I.kIn J h1 e (fun z => nomatch z) fun tk => ⟨.bl b, H, I.kept (t' := tk) fun _ _ z => z, rfl, q⟩
/-- a def that may raise -/
structure FdX (P : Program) (w : World) (K : PySem.W.Frag) (mg : Str → Option Value) (base : Heap) (x : Str) (ps : List Str) (k : Nat) (sp : Sp) : Prop where
  ex : ∃ (f : Addr) (fd : FuncData), FnOk P w K mg base (L2.CX P w) k f fd ps sp ∧ mg x = some (.ref f) ∧ PySem.W.keepIn K (.ref f) = true ∧ Binds K fd ps []
theorem pe_fnX {X : Cx} {x : Str} {ps : List Str} {k : Nat} {sp : Sp} {e : Expr} {es : List Expr} {t : TA} {p pos : Pos} {W : WX} (F : FdX X.prog X.w X.K X.mg X.base x ps k sp) (hr : Room k X.A) (hg : Gl X x) (tk : Takes X W) (ha : PA X (e :: es) t)
    (hdb : (x == ("__debug__" : Str)) = false := by decide) (he : starEach (e :: es) X.env = (false, eval e X.env) :: starEach es X.env := by rfl) (hpl : (backTo pos (starEach es X.env)).any (·.1) = false := by rfl) :
    PE X (.Call (.Name x p) (e :: es) [] pos) (tCallS sp (WE W) t) := by
  obtain ⟨f, fd, G, m, kp, b⟩ := F.ex
  exact pe_callS G hr hg m kp b (fun σ => passAt tk σ) ha hdb he hpl
theorem kit_sub {K : PySem.W.Frag} {mg : Str → Option Value} {x y : Str} {C D : Addr} {b : Bool} (hC : ExcX K mg x C) (hD : ExcX K mg y D) (hs : PySem.W.subIn K (.ref C) (.ref D) = some b) : PySem.W.kitOne K (.ref C) (.ref D) = some b := by
  by_cases e : C = D
  · subst e
    rw [hC.self] at hs
    cases hs
    show (if (Value.ref C == Value.ref C) = true then some true else _) = some true
    rw [if_pos (beq_self_eq_true _)]
  · exact kit_ref hD.ic hD.ty e hs
theorem kit_two {K : PySem.W.Frag} {t c1 c2 : Value} (h1 : PySem.W.kitOne K t c1 = some false) (h2 : PySem.W.kitOne K t c2 = some false) : PySem.W.kitAny K t [c1, c2] = some false := by
  unfold PySem.W.kitAny
  rw [h1]
  show PySem.W.kitAny K t [c2] = some false
  unfold PySem.W.kitAny
  rw [h2]
  rfl
def isTE (K : PySem.W.Frag) (a : Addr) (cls : Value) (d : Option Addr) (i : Nat) (te : TE) : TE := tCB (rIsEx K a cls d) (tCons (tVar i) (tCons te tNil))
/-- isinstance(e, A) and isinstance(e, ValueError) and not isinstance(e, (B, C)) -/
def isAll (K : PySem.W.Frag) (i : Nat) (A : V) (B : TE) (a : Addr) (cls : Value) (d : Option Addr) : TE := tAndV (isTE K a cls d i (tC A)) (tAndV (isTE K a cls d i (tC (.ty "ValueError"))) (tNotV (isTE K a cls d i B)))
theorem isAll_yes {K : PySem.W.Frag} {mg : Str → Option Value} {nC nL n1 n2 : Str} {i : Nat} {a C L D1 D2 : Addr} {σ : L2.St} {H : Hp} {Q : VK} (XC : ExcX K mg nC C) (XL : ExcX K mg nL L) (X1 : ExcX K mg n1 D1) (X2 : ExcX K mg n2 D2)
    (hL : PySem.W.subIn K (.ref C) (.ref L) = some true) (h1 : PySem.W.subIn K (.ref C) (.ref D1) = some false) (h2 : PySem.W.subIn K (.ref C) (.ref D2) = some false) (hi : σ[i]? = some (some (.ref a)))
    (q : ∀ H', Same H H' → Q (.bl true) H') : isAll K i (.ref L) (tTup (tCons (tC (.ref D1)) (tCons (tC (.ref D2)) tNil))) a (.ref C) none σ H Q :=
  ⟨_, hi, C, true, rfl, rfl, XC.is, ⟨_, rfl, iteT ⟨_, hi, C, true, rfl, rfl, XC.is, ⟨_, rfl, iteT ⟨_, hi, szc 2, fun tp np => ⟨C, false, rfl, rfl, XC.is, ⟨_, rfl, q _ (same_new np)⟩, .inr ⟨tp, _, _, rfl, upd_same, .cons (.own _) (.cons (.own _) .nil), kit_two (kit_sub XC X1 h1) (kit_sub XC X2 h2)⟩⟩⟩⟩, .inl ⟨_, _, rfl, .ty _, kit_val XC.val⟩⟩⟩, .inl ⟨_, _, rfl, .own _, kit_sub XC XL hL⟩⟩
/-- isinstance(e, A) and isinstance(e, ValueError) and not isinstance(e, B) -/
theorem isAll_yes1 {K : PySem.W.Frag} {mg : Str → Option Value} {nC nL n1 : Str} {i : Nat} {a C L D1 : Addr} {σ : L2.St} {H : Hp} {Q : VK} (XC : ExcX K mg nC C) (XL : ExcX K mg nL L) (X1 : ExcX K mg n1 D1)
    (hL : PySem.W.subIn K (.ref C) (.ref L) = some true) (h1 : PySem.W.subIn K (.ref C) (.ref D1) = some false) (hi : σ[i]? = some (some (.ref a)))
    (q : Q (.bl true) H) : isAll K i (.ref L) (tC (.ref D1)) a (.ref C) none σ H Q :=
  ⟨_, hi, C, true, rfl, rfl, XC.is, ⟨_, rfl, iteT ⟨_, hi, C, true, rfl, rfl, XC.is, ⟨_, rfl, iteT ⟨_, hi, C, false, rfl, rfl, XC.is, ⟨_, rfl, q⟩, .inl ⟨_, _, rfl, .own _, kit_sub XC X1 h1⟩⟩⟩, .inl ⟨_, _, rfl, .ty _, kit_val XC.val⟩⟩⟩, .inl ⟨_, _, rfl, .own _, kit_sub XC XL hL⟩⟩
structure Exs (K : PySem.W.Frag) (mg : Str → Option Value) (CL CO CN CB : Addr) : Prop where
  L : ExcX K mg "LegionError" CL
  O : ExcX K mg "OutOfRange" CO
  N : ExcX K mg "NotPossible" CN
  B : ExcX K mg "BadMachine" CB
  oL : PySem.W.subIn K (.ref CO) (.ref CL) = some true
  oN : PySem.W.subIn K (.ref CO) (.ref CN) = some false
  oB : PySem.W.subIn K (.ref CO) (.ref CB) = some false
  nL : PySem.W.subIn K (.ref CN) (.ref CL) = some true
  nO : PySem.W.subIn K (.ref CN) (.ref CO) = some false
  nB : PySem.W.subIn K (.ref CN) (.ref CB) = some false
section
variable {P : Program} {w : World} {K : PySem.W.Frag} {mg : Str → Option Value} {base : Heap} {CO CN CB CL : Addr}
def spMvAtX (K : PySem.W.Frag) (CO : Addr) : Sp := fun vs H Q E => ∃ (v : V) (M : MT) (i : Int), vs = [v, .int i] ∧ Dp K H v M.data ∧ (i < 0 ∨ (M.moves.length : Int) ≤ i) ∧ E (.ref CO) none H
theorem fdX_move_at {f : Addr} {fd : FuncData} (F : Fun K "move_at" "move_at" s_move_at f fd) (m : mg "move_at" = some (.ref f)) (B : Bt mg) (XO : ExcX K mg "OutOfRange" CO) : FdX P w K mg base "move_at" ["machine", "index"] 1 (spMvAtX K CO) := by
  refine ⟨f, fd, F.okX sc_move_at (fun vs H Q E h => ?_) (fun cdv A outer s H vs Q E hr h => ?_), m, F.kp, F.binds (ps := ["machine", "index"]) fun _ _ _ _ _ _ us hl => match us, hl with | [_, _], _ => rfl⟩
  · obtain ⟨v, M, i, rfl, _⟩ := h
    rfl
  obtain ⟨v, M, i, rfl, hd, hi, q⟩ := h
  obtain ⟨a, sv, ma, xs, rfl, ha, _, hma, hxs⟩ := dp_mt hd
  have xl := dpa_map_len hxs
  refine ⟨_, (pss_cons (ps_if (pt_not (pt_chain op_le op_lt pe_int (pv 1) (pe_callB (cLen K) (by rfl) B.len PySem.boot_len (pa_cons (pe_ix (ixT K) (pv 0) pe_int (fun _ _ => rfl)) pa_nil))))
   (pss_one (ps_raise (W := fun cls d _ H => E cls d H) rfl (takes_of rfl rfl rfl rfl) (pmk_own PySem.F.excBase_ValueError XO.exc XO.gC XO.kC (raises_own XO.sub XO.ty) rfl))) pss_nil)
   (PSs.nox (pss_one (ps_ret (pe_ix (ixL K) (pe_ix (ixT K) (pv 0) pe_int (fun _ _ => rfl)) (pv 1) (fun _ _ => rfl)))))), ?_⟩
  refine ⟨_, rfl, _, _, rfl, rfl, _, rfl, ?_⟩
  by_cases h0 : 0 ≤ i
  · rw [if_pos (decide_eq_true h0)]
    refine ⟨_, rfl, _, _, _, _, rfl, rfl, ha, atI_nat (j := 4) rfl, ma, _, rfl, .inl hma, _, _, rfl, rfl, _, rfl, ?_⟩
    rw [decide_eq_false (show ¬ i < (xs.length : Int) by omega)]
    exact iteT q
  · rw [if_neg (fun z => h0 (of_decide_eq_true z))]
    exact ⟨_, rfl, iteT q⟩
def spIsPosX (K : PySem.W.Frag) (CO : Addr) : Sp := fun vs H Q E => ∃ (v x : V) (M : MT) (i : Int), vs = [v, x, .int i] ∧ Dp K H v M.data ∧ (i < 0 ∨ (M.moves.length : Int) ≤ i) ∧ E (.ref CO) none H
theorem fdX_is_possible {f : Addr} {fd : FuncData} (F : Fun K "is_possible" "is_possible" s_is_possible f fd) (m : mg "is_possible" = some (.ref f)) (DX_move_at : FdX P w K mg base "move_at" ["machine", "index"] 1 (spMvAtX K CO)) (D_can_take : Fd P w K mg base "can_take" ["situation", "move"] 1 (spCan K)) : FdX P w K mg base "is_possible" ["machine", "situation", "move"] 2 (spIsPosX K CO) := by
  refine ⟨f, fd, F.okX sc_is_possible (fun vs H Q E h => ?_) (fun cdv A outer s H vs Q E hr h => ?_), m, F.kp, F.binds (ps := ["machine", "situation", "move"]) fun _ _ _ _ _ _ us hl => match us, hl with | [_, _, _], _ => rfl⟩
  · obtain ⟨v, x, M, i, rfl, _⟩ := h
    rfl
  obtain ⟨v, x, M, i, rfl, hd, hi, q⟩ := h
  refine ⟨_, (pss_one (ps_ret (pe_fn D_can_take (hr.mono (by decide)) rfl (pa_cons (pv 1) (pa_cons (pe_fnX (W := fun cls d _ H => E cls d H) DX_move_at (hr.mono (by decide)) rfl (takes_of rfl rfl rfl rfl) (pa_cons (pv 0) (pa_cons (pv 2) pa_nil))) pa_nil))))), ?_⟩
  exact ⟨_, rfl, _, rfl, _, rfl, v, M, i, rfl, hd, hi, q⟩
/-- after, where it raises: no such move, or not possible -/
def spAftX (K : PySem.W.Frag) (CO CN : Addr) : Sp := fun vs H Q E => ∃ (v x : V) (M : MT) (i : Int) (s : Int) (cs : List Int), vs = [v, x, .int i] ∧ Dp K H v M.data ∧ Sit K H x s cs ∧ (((i < 0 ∨ (M.moves.length : Int) ≤ i) ∧ E (.ref CO) none H) ∨ ∃ (k : Nat) (m : MvT), i = (k : Int) ∧ M.moves[k]? = some m ∧ m.pl < cs.length ∧ m.can s cs = false ∧ E (.ref CN) none H)
def spStartX (K : PySem.W.Frag) (CO : Addr) : Sp := fun vs H Q E => ∃ (v : V) (n : Int), vs = [v, .int n] ∧ n < 0 ∧ E (.ref CO) none H
theorem fdX_start_with {f : Addr} {fd : FuncData} (F : Fun K "start_with" "start_with" s_start_with f fd) (m : mg "start_with" = some (.ref f)) (B : Bt mg) (XO : ExcX K mg "OutOfRange" CO) : FdX P w K mg base "start_with" ["machine", "crew"] 1 (spStartX K CO) := by
  refine ⟨f, fd, F.okX sc_start_with (fun vs H Q E h => ?_) (fun cdv A outer s H vs Q E hr h => ?_), m, F.kp, F.binds (ps := ["machine", "crew"]) fun _ _ _ _ _ _ us hl => match us, hl with | [_, _], _ => rfl⟩
  · obtain ⟨v, n, rfl, _⟩ := h
    rfl
  obtain ⟨v, n, rfl, hn, q⟩ := h
  refine ⟨_, (pss_cons (ps_if (pt_cmpR op_lt (pv 1) pe_int (nomark _))
   (pss_one (ps_raise (W := fun cls d _ H => E cls d H) rfl (takes_of rfl rfl rfl rfl) (pmk_own PySem.F.excBase_ValueError XO.exc XO.gC XO.kC (raises_own XO.sub XO.ty) rfl))) pss_nil)
   (PSs.nox (pss_cons (ps_asg (pe_ix (ixT K) (pv 0) pe_int (fun _ _ => rfl)) (pg_tup rfl (pgs_cons (pg_name (i := 2) sc_start_with.nd rfl (Or.inl rfl)) (pgs_cons (pg_name (i := 3) sc_start_with.nd rfl (Or.inl rfl)) pgs_nil))))
 (pss_cons (ps_set (i := 4) sc_start_with.nd rfl (Or.inl rfl) (pe_callTy (cList K) (by rfl) B.list (by decide +kernel) (pa_cons (pv 3) pa_nil)))
 (pss_cons (ps_augS (pv 4) (pe_ix (ixT K) (pv 0) pe_int (fun _ _ => rfl)) (getL K) (pv 1) ip_add set_list)
 (pss_one (ps_ret (pe_tup (pa_cons (pv 2) (pa_cons (pv 4) pa_nil)))))))))), ?_⟩
  refine ⟨_, rfl, _, _, rfl, rfl, _, rfl, ?_⟩
  rw [decide_eq_true hn]
  exact iteT q
theorem fdX_after {f : Addr} {fd : FuncData} (F : Fun K "after" "after" s_after f fd) (m : mg "after" = some (.ref f)) (B : Bt mg) (XN : ExcX K mg "NotPossible" CN) (DX_move_at : FdX P w K mg base "move_at" ["machine", "index"] 1 (spMvAtX K CO)) (D_move_at : Fd P w K mg base "move_at" ["machine", "index"] 1 (spMvAt K)) (D_can_take : Fd P w K mg base "can_take" ["situation", "move"] 1 (spCan K)) : FdX P w K mg base "after" ["machine", "situation", "move"] 2 (spAftX K CO CN) := by
  refine ⟨f, fd, F.okX sc_after (fun vs H Q E h => ?_) (fun cdv A outer s H vs Q E hr h => ?_), m, F.kp, F.binds (ps := ["machine", "situation", "move"]) fun _ _ _ _ _ _ us hl => match us, hl with | [_, _, _], _ => rfl⟩
  · obtain ⟨v, x, M, i, s, cs, rfl, _⟩ := h
    rfl
  obtain ⟨v, x, M, i, s, cs, rfl, hd, hx, h⟩ := h
  rcases h with ⟨hi, q⟩ | ⟨k, mv, rfl, hm, hp, hc, q⟩
  · refine ⟨_, (pss_cons (ps_set (i := 3) sc_after.nd rfl (Or.inl rfl) (pe_fnX (W := fun cls d _ H => E cls d H) DX_move_at (hr.mono (by decide)) rfl (takes_of rfl rfl rfl rfl) (pa_cons (pv 0) (pa_cons (pv 2) pa_nil)))) (PSs.nox (pss_cons (ps_if (pt_not (pt_val (pe_fn D_can_take (hr.mono (by decide)) rfl (pa_cons (pv 1) (pa_cons (pv 3) pa_nil)))))
 (pss_one ps_never)
 pss_nil)
 (pss_cons (ps_asg (pv 3) (pg_tup rfl (pgs_cons (pg_name (i := 4) sc_after.nd rfl (Or.inl rfl)) (pgs_cons (pg_name (i := 5) sc_after.nd rfl (Or.inl rfl)) (pgs_cons (pg_name (i := 6) sc_after.nd rfl (Or.inl rfl)) (pgs_cons (pg_name (i := 7) sc_after.nd rfl (Or.inl rfl)) (pgs_cons (pg_name (i := 8) sc_after.nd rfl (Or.inl rfl)) (pgs_cons (pg_name (i := 9) sc_after.nd rfl (Or.inl rfl)) pgs_nil))))))))
 (pss_cons (ps_set (i := 10) sc_after.nd rfl (Or.inl rfl) (pe_callTy (cList K) (by rfl) B.list (by decide +kernel) (pa_cons (pe_ix (ixT K) (pv 1) pe_int (fun _ _ => rfl)) pa_nil)))
 (pss_cons (ps_augS (pv 10) (pv 5) (getL K) pe_int ip_sub set_list)
 (pss_cons (ps_for PassesOwn.never rfl (piL K (pv 9)) (pg_tup rfl (pgs_cons (pg_name (i := 11) sc_after.nd rfl (Or.inl rfl)) (pgs_cons (pg_name (i := 12) sc_after.nd rfl (Or.inl rfl)) pgs_nil)))
 (pss_cons (ps_augS (pv 10) (pv 12) (getL K) (pe_ix (ixL K) (pv 10) (pv 11) (fun _ _ => rfl)) ip_add set_list)
 (pss_one (ps_asg pe_int (pg_sub (pv 10) (pv 11) set_list)))))
 (pss_cons (ps_augS (pv 10) (pv 7) (getL K) pe_int ip_add set_list)
 (C8.pss_cut (ps_if (pt_cmpR op_notN (pv 8) pe_non (nomark _))
 (pss_one (ps_augS (pv 10) (pv 8) (getL K) pe_int ip_add set_list))
 pss_nil)
 (pss_one (ps_ret (pe_tup (pa_cons (pv 6) (pa_cons (pv 10) pa_nil)))))))))))))), ?_⟩
    exact ⟨_, rfl, _, rfl, v, M, i, rfl, hd, hi, q⟩
  · refine ⟨_, (pss_cons (ps_set (i := 3) sc_after.nd rfl (Or.inl rfl) (pe_fn D_move_at (hr.mono (by decide)) rfl (pa_cons (pv 0) (pa_cons (pv 2) pa_nil))))
     (pss_cons (ps_if (pt_not (pt_val (pe_fn D_can_take (hr.mono (by decide)) rfl (pa_cons (pv 1) (pa_cons (pv 3) pa_nil)))))
      (pss_one (ps_raise (W := fun cls d _ H => E cls d H) rfl (takes_of rfl rfl rfl rfl) (pmk_own PySem.F.excBase_ValueError XN.exc XN.gC XN.kC (raises_own XN.sub XN.ty) rfl))) pss_nil)
     (PSs.nox (pss_cons (ps_asg (pv 3) (pg_tup rfl (pgs_cons (pg_name (i := 4) sc_after.nd rfl (Or.inl rfl)) (pgs_cons (pg_name (i := 5) sc_after.nd rfl (Or.inl rfl)) (pgs_cons (pg_name (i := 6) sc_after.nd rfl (Or.inl rfl)) (pgs_cons (pg_name (i := 7) sc_after.nd rfl (Or.inl rfl)) (pgs_cons (pg_name (i := 8) sc_after.nd rfl (Or.inl rfl)) (pgs_cons (pg_name (i := 9) sc_after.nd rfl (Or.inl rfl)) pgs_nil))))))))
 (pss_cons (ps_set (i := 10) sc_after.nd rfl (Or.inl rfl) (pe_callTy (cList K) (by rfl) B.list (by decide +kernel) (pa_cons (pe_ix (ixT K) (pv 1) pe_int (fun _ _ => rfl)) pa_nil)))
 (pss_cons (ps_augS (pv 10) (pv 5) (getL K) pe_int ip_sub set_list)
 (pss_cons (ps_for PassesOwn.never rfl (piL K (pv 9)) (pg_tup rfl (pgs_cons (pg_name (i := 11) sc_after.nd rfl (Or.inl rfl)) (pgs_cons (pg_name (i := 12) sc_after.nd rfl (Or.inl rfl)) pgs_nil)))
 (pss_cons (ps_augS (pv 10) (pv 12) (getL K) (pe_ix (ixL K) (pv 10) (pv 11) (fun _ _ => rfl)) ip_add set_list)
 (pss_one (ps_asg pe_int (pg_sub (pv 10) (pv 11) set_list)))))
 (pss_cons (ps_augS (pv 10) (pv 7) (getL K) pe_int ip_add set_list)
 (C8.pss_cut (ps_if (pt_cmpR op_notN (pv 8) pe_non (nomark _))
 (pss_one (ps_augS (pv 10) (pv 8) (getL K) pe_int ip_add set_list))
 pss_nil)
 (pss_one (ps_ret (pe_tup (pa_cons (pv 6) (pa_cons (pv 10) pa_nil)))))))))))))), ?_⟩
    refine ⟨_, rfl, _, rfl, v, M, k, mv, rfl, hd, hm, fun y dy => ?_⟩
    dsimp only [gName]
    refine ⟨_, rfl, _, rfl, _, _, s, cs, mv, rfl, hx, dy, hp, _, rfl, ?_⟩
    rw [hc]
    exact iteT q
end
section
variable {P : Program} {w : World} {K : PySem.W.Frag} {mg : Str → Option Value} {base : Heap} {CO CN CB CL : Addr}
abbrev s_law_not_possible : Stmt := topS 20
theorem sc_law_not_possible : FnScope ["machine", "situation", "move", "e"] ["machine", "situation", "move"] (defScope s_law_not_possible) := ⟨rfl, rfl, rfl, by decide +kernel, rfl, by decide +kernel, by decide +kernel⟩
-- _law_not_possible slots: machine=0 situation=1 move=2 e=3 globals: after NotPossible isinstance LegionError ValueError OutOfRange BadMachine
def spLNP (K : PySem.W.Frag) : Sp := fun vs H Q _ => ∃ (v x : V) (M : MT) (k : Nat) (m : MvT) (s : Int) (cs : List Int), vs = [v, x, nV k] ∧ Dp K H v M.data ∧ Sit K H x s cs ∧ M.moves[k]? = some m ∧ m.pl < cs.length ∧ m.can s cs = false ∧ ∀ H', Same H H' → Q (.bl true) H'
theorem fd_law_not_possible {f : Addr} {fd : FuncData} (F : Fun K "_law_not_possible" "_law_not_possible" s_law_not_possible f fd) (m : mg "_law_not_possible" = some (.ref f)) (B : Bt mg) (X : Exs K mg CL CO CN CB) (DX_after : FdX P w K mg base "after" ["machine", "situation", "move"] 2 (spAftX K CO CN)) : Fd P w K mg base "_law_not_possible" ["machine", "situation", "move"] 3 (spLNP K) := by
  refine ⟨f, fd, F.ok sc_law_not_possible (fun vs H Q E h => ?_) (fun cdv A outer s H vs Q E hr h => ?_), m, F.kp, F.binds (ps := ["machine", "situation", "move"]) fun _ _ _ _ _ _ us hl => match us, hl with | [_, _, _], _ => rfl⟩
  · obtain ⟨v, x, M, k, m, s, cs, rfl, _⟩ := h
    rfl
  obtain ⟨v, x, M, k, mv, s, cs, rfl, hd, hx, hm, hp, hc, q⟩ := h
  have XL := X.L
  have XO := X.O
  have XN := X.N
  have XB := X.B
  refine ⟨_, pss_cons (ps_try_as (i := 3) (tb := fun W => tDrop (tCallS (spAftX K CO CN) (WE W) (tCons (tVar 0) (tCons (tVar 1) (tCons (tVar 2) tNil))))) (ts := fun a cls d => tRet (isAll K 3 (.ref CL) (tTup (tCons (tC (.ref CO)) (tCons (tC (.ref CB)) tNil))) a cls d)) (Wout := fun _ _ _ _ => False) rfl rfl sc_law_not_possible.nd rfl rfl ⟨rfl, by decide, .inl XN.gC⟩ takes0
      (fun W pn xe tk _ => pss_one (ps_expr (by exact (pe_fnX DX_after (hr.mono (by decide)) rfl tk (pa_cons (pv 0) (pa_cons (pv 1) (pa_cons (pv 2) pa_nil)))))))
      (fun a oe cls d pn hz hf => pss_one (ps_ret (by exact (pe_and (pe_callB (call_isEx hz hf) (by rfl) B.isinstance (by decide +kernel) (pa_cons (pv 3) (pa_cons (pe_glob rfl XL.gC rfl) pa_nil))) (pe_and (pe_callB (call_isEx hz hf) (by rfl) B.isinstance (by decide +kernel) (pa_cons (pv 3) (pa_cons (pe_bltn (v := .ty "ValueError") (by rfl) B.ValueError (by decide +kernel) rfl) pa_nil))) (pe_one (pe_not (pe_callB (call_isEx hz hf) (by rfl) B.isinstance (by decide +kernel) (pa_cons (pv 3) (pa_cons (pe_tup (pa_cons (pe_glob rfl XO.gC rfl) (pa_cons (pe_glob rfl XB.gC rfl) pa_nil))) pa_nil)))))))))))
    (pss_one (ps_ret pe_bl)), ?_⟩
  refine ⟨_, rfl, _, rfl, _, rfl, v, x, M, _, s, cs, rfl, hd, hx, .inr ⟨k, mv, rfl, hm, hp, hc, true, exm_own XN XN.self, fun _ a0 na => ?_, fun q => nomatch q⟩⟩
  exact isAll_yes XN XL XO XB X.nL X.nO X.nB rfl q
abbrev s_law_no_crew : Stmt := topS 21
theorem sc_law_no_crew : FnScope ["machine", "crew", "e"] ["machine", "crew"] (defScope s_law_no_crew) := ⟨rfl, rfl, rfl, by decide +kernel, rfl, by decide +kernel, by decide +kernel⟩
-- _law_no_crew slots: machine=0 crew=1 e=2 globals: start_with OutOfRange isinstance LegionError ValueError NotPossible
def spLNC (K : PySem.W.Frag) : Sp := fun vs H Q _ => ∃ (v : V) (n : Int), vs = [v, .int n] ∧ n < 0 ∧ Q (.bl true) H
theorem fd_law_no_crew {f : Addr} {fd : FuncData} (F : Fun K "_law_no_crew" "_law_no_crew" s_law_no_crew f fd) (m : mg "_law_no_crew" = some (.ref f)) (B : Bt mg) (X : Exs K mg CL CO CN CB) (DX_start_with : FdX P w K mg base "start_with" ["machine", "crew"] 1 (spStartX K CO)) : Fd P w K mg base "_law_no_crew" ["machine", "crew"] 2 (spLNC K) := by
  refine ⟨f, fd, F.ok sc_law_no_crew (fun vs H Q E h => ?_) (fun cdv A outer s H vs Q E hr h => ?_), m, F.kp, F.binds (ps := ["machine", "crew"]) fun _ _ _ _ _ _ us hl => match us, hl with | [_, _], _ => rfl⟩
  · obtain ⟨v, n, rfl, _⟩ := h
    rfl
  obtain ⟨v, n, rfl, hn, q⟩ := h
  have XL := X.L
  have XO := X.O
  have XN := X.N
  refine ⟨_, pss_cons (ps_try_as (i := 2) (tb := fun W => tDrop (tCallS (spStartX K CO) (WE W) (tCons (tVar 0) (tCons (tVar 1) tNil)))) (ts := fun a cls d => tRet (isAll K 2 (.ref CL) (tC (.ref CN)) a cls d)) (Wout := fun _ _ _ _ => False) rfl rfl sc_law_no_crew.nd rfl rfl ⟨rfl, by decide, .inl XO.gC⟩ takes0
      (fun W pn xe tk _ => pss_one (ps_expr (by exact (pe_fnX DX_start_with (hr.mono (by decide)) rfl tk (pa_cons (pv 0) (pa_cons (pv 1) pa_nil))))))
      (fun a oe cls d pn hz hf => pss_one (ps_ret (by exact (pe_and (pe_callB (call_isEx hz hf) (by rfl) B.isinstance (by decide +kernel) (pa_cons (pv 2) (pa_cons (pe_glob rfl XL.gC rfl) pa_nil))) (pe_and (pe_callB (call_isEx hz hf) (by rfl) B.isinstance (by decide +kernel) (pa_cons (pv 2) (pa_cons (pe_bltn (v := .ty "ValueError") (by rfl) B.ValueError (by decide +kernel) rfl) pa_nil))) (pe_one (pe_not (pe_callB (call_isEx hz hf) (by rfl) B.isinstance (by decide +kernel) (pa_cons (pv 2) (pa_cons (pe_glob rfl XN.gC rfl) pa_nil)))))))))))
    (pss_one (ps_ret pe_bl)), ?_⟩
  exact ⟨_, rfl, _, rfl, v, n, rfl, hn, true, exm_own XO XO.self, fun _ a0 na => isAll_yes1 XO XL XN X.oL X.oN rfl q, fun q => nomatch q⟩
abbrev s_law_no_move : Stmt := topS 19
theorem sc_law_no_move : FnScope ["machine", "situation", "move", "count", "e"] ["machine", "situation", "move"] (defScope s_law_no_move) := ⟨rfl, rfl, rfl, by decide +kernel, rfl, by decide +kernel, by decide +kernel⟩
-- _law_no_move slots: machine=0 situation=1 move=2 count=3 e=4 globals: is_possible OutOfRange int isinstance LegionError ValueError NotPossible BadMachine after
def spLNM (K : PySem.W.Frag) : Sp := fun vs H Q _ => ∃ (v x : V) (M : MT) (i : Int) (s : Int) (cs : List Int), vs = [v, x, .int i] ∧ Dp K H v M.data ∧ Sit K H x s cs ∧ (i < 0 ∨ (M.moves.length : Int) ≤ i) ∧ ∀ H', Same H H' → Q (.bl true) H'
def rIntB : List V → Hp → VK → Prop := fun xs H Q => (∃ i, xs = [.int i] ∧ Q (.int i) H) ∨ ∃ k, xs = [.bl k] ∧ Q (.int (if k = true then 1 else 0)) H
theorem fd_law_no_move {f : Addr} {fd : FuncData} (F : Fun K "_law_no_move" "_law_no_move" s_law_no_move f fd) (m : mg "_law_no_move" = some (.ref f)) (B : Bt mg) (X : Exs K mg CL CO CN CB) (DX_is_possible : FdX P w K mg base "is_possible" ["machine", "situation", "move"] 2 (spIsPosX K CO)) (DX_after : FdX P w K mg base "after" ["machine", "situation", "move"] 2 (spAftX K CO CN)) : Fd P w K mg base "_law_no_move" ["machine", "situation", "move"] 3 (spLNM K) := by
  refine ⟨f, fd, F.ok sc_law_no_move (fun vs H Q E h => ?_) (fun cdv A outer s H vs Q E hr h => ?_), m, F.kp, F.binds (ps := ["machine", "situation", "move"]) fun _ _ _ _ _ _ us hl => match us, hl with | [_, _, _], _ => rfl⟩
  · obtain ⟨v, x, M, i, s, cs, rfl, _⟩ := h
    rfl
  obtain ⟨v, x, M, i, s, cs, rfl, hd, hx, hi, q⟩ := h
  have XL := X.L
  have XO := X.O
  have XN := X.N
  have XB := X.B
  refine ⟨_, pss_cons (ps_set (i := 3) sc_law_no_move.nd rfl (Or.inl rfl) pe_int) (pss_cons (ps_try_as (i := 4) (tb := fun W => tDrop (tCallS (spIsPosX K CO) (WE W) (tCons (tVar 0) (tCons (tVar 1) (tCons (tVar 2) tNil))))) (ts := fun a cls d => tAsg (tOp (rI0 fun i j => .int (i + j)) (tVar 3) (tCB rIntB (tCons (isAll K 4 (.ref CL) (tTup (tCons (tC (.ref CN)) (tCons (tC (.ref CB)) tNil))) a cls d) tNil))) (gName 3)) (Wout := fun _ _ _ _ => False) rfl rfl sc_law_no_move.nd rfl rfl ⟨rfl, by decide, .inl XO.gC⟩ takes0
      (fun W pn xe tk _ => pss_one (ps_expr (by exact (pe_fnX DX_is_possible (hr.mono (by decide)) rfl tk (pa_cons (pv 0) (pa_cons (pv 1) (pa_cons (pv 2) pa_nil)))))))
      (fun a oe cls d pn hz hf => pss_one (ps_set (i := 3) sc_law_no_move.nd rfl (Or.inl rfl) (by exact (pe_op op_add (pv 3) (pe_callTy (call_int1 : CallR _ _ rIntB) (by rfl) B.int (by decide +kernel) (pa_cons (pe_and (pe_callB (call_isEx hz hf) (by rfl) B.isinstance (by decide +kernel) (pa_cons (pv 4) (pa_cons (pe_glob rfl XL.gC rfl) pa_nil))) (pe_and (pe_callB (call_isEx hz hf) (by rfl) B.isinstance (by decide +kernel) (pa_cons (pv 4) (pa_cons (pe_bltn (v := .ty "ValueError") (by rfl) B.ValueError (by decide +kernel) rfl) pa_nil))) (pe_one (pe_not (pe_callB (call_isEx hz hf) (by rfl) B.isinstance (by decide +kernel) (pa_cons (pv 4) (pa_cons (pe_tup (pa_cons (pe_glob rfl XN.gC rfl) (pa_cons (pe_glob rfl XB.gC rfl) pa_nil))) pa_nil))))))) pa_nil)))))))
    (pss_cons (ps_try_as (i := 4) (tb := fun W => tDrop (tCallS (spAftX K CO CN) (WE W) (tCons (tVar 0) (tCons (tVar 1) (tCons (tVar 2) tNil))))) (ts := fun a cls d => tAsg (tOp (rI0 fun i j => .int (i + j)) (tVar 3) (tCB rIntB (tCons (isAll K 4 (.ref CL) (tTup (tCons (tC (.ref CN)) (tCons (tC (.ref CB)) tNil))) a cls d) tNil))) (gName 3)) (Wout := fun _ _ _ _ => False) rfl rfl sc_law_no_move.nd rfl rfl ⟨rfl, by decide, .inl XO.gC⟩ takes0
      (fun W pn xe tk _ => pss_one (ps_expr (by exact (pe_fnX DX_after (hr.mono (by decide)) rfl tk (pa_cons (pv 0) (pa_cons (pv 1) (pa_cons (pv 2) pa_nil)))))))
      (fun a oe cls d pn hz hf => pss_one (ps_set (i := 3) sc_law_no_move.nd rfl (Or.inl rfl) (by exact (pe_op op_add (pv 3) (pe_callTy (call_int1 : CallR _ _ rIntB) (by rfl) B.int (by decide +kernel) (pa_cons (pe_and (pe_callB (call_isEx hz hf) (by rfl) B.isinstance (by decide +kernel) (pa_cons (pv 4) (pa_cons (pe_glob rfl XL.gC rfl) pa_nil))) (pe_and (pe_callB (call_isEx hz hf) (by rfl) B.isinstance (by decide +kernel) (pa_cons (pv 4) (pa_cons (pe_bltn (v := .ty "ValueError") (by rfl) B.ValueError (by decide +kernel) rfl) pa_nil))) (pe_one (pe_not (pe_callB (call_isEx hz hf) (by rfl) B.isinstance (by decide +kernel) (pa_cons (pv 4) (pa_cons (pe_tup (pa_cons (pe_glob rfl XN.gC rfl) (pa_cons (pe_glob rfl XB.gC rfl) pa_nil))) pa_nil))))))) pa_nil)))))))
    (pss_one (ps_ret (pe_cmpR op_eq (pv 3) pe_int (nomark _)))))), ?_⟩
  refine ⟨_, rfl, _, rfl, _, rfl, v, x, M, _, rfl, hd, hi, true, exm_own XO XO.self, fun _ a0 na => ?_, fun q => nomatch q⟩
  refine ⟨_, rfl, isAll_yes XO XL XN XB X.oL X.oN X.oB rfl fun H1 s1 => .inr ⟨true, rfl, _, _, rfl, rfl, ?_⟩⟩
  refine ⟨_, rfl, _, rfl, _, rfl, v, x, M, _, s, cs, rfl, dp_mono s1 hd, Same.sit s1 hx, .inl ⟨hi, true, exm_own XO XO.self, fun _ a1 na1 => ?_, fun q => nomatch q⟩⟩
  refine ⟨_, rfl, isAll_yes XO XL XN XB X.oL X.oN X.oB rfl fun H2 s2 => .inr ⟨true, rfl, _, _, rfl, rfl, ?_⟩⟩
  exact ⟨_, rfl, rfl, q _ (s1.trans s2)⟩
end
/-! ### what the laws of machines share -/
theorem dpa_nVs {K : PySem.W.Frag} {H : Hp} (ks : List Nat) : DpAll K H (ks.map nV) (ks.map nD) := by
  induction ks with
  | nil => exact .nil
  | cons k r ih => exact .cons (.int _) ih
theorem nats_nc {m : Nat} : ∀ {ks : List Nat}, (∀ k ∈ ks, k < 100) → NcL (ks.map nD) ks.length m
  | [], _ => .nil
  | k :: r, h => (NcL.cons (nD_nc (h k List.mem_cons_self)) (nats_nc fun x hx => h x (List.mem_cons_of_mem _ hx))).mono (by rw [List.length_cons]; omega) (Nat.le_refl _)
theorem inV_nats (k : Nat) : ∀ ks : List Nat, inV (nV k) (ks.map nV) = decide (k ∈ ks)
  | [] => rfl
  | j :: r => by
    have ih := inV_nats k r
    show (eqV (nV j) (nV k) || inV (nV k) (r.map nV)) = _
    rw [ih]
    by_cases h : j = k
    · subst h
      rw [decide_eq_true (List.mem_cons_self)]
      have : eqV (nV j) (nV j) = true := by
        show decide (_ = _) = true
        exact decide_eq_true rfl
      rw [this]
      rfl
    · have : eqV (nV j) (nV k) = false := by
        show decide (_ = _) = false
        exact decide_eq_false fun z => h (by omega)
      rw [this, Bool.false_or]
      exact decide_eq_decide.mpr ⟨fun x => List.mem_cons_of_mem _ x, fun x => by
        rcases List.mem_cons.mp x with e | e
        · exact absurd e.symm h
        · exact e⟩
theorem flat_nats (ks : List Nat) : (ks.map nV).all flatV = true := by
  rw [List.all_eq_true]
  intro v hv
  obtain ⟨s, _, rfl⟩ := List.mem_map.mp hv
  rfl
theorem NewSit.mut {K : PySem.W.Frag} {H H' : Hp} {p b : Addr} {s : Int} {cs : List Int} {o u : HO} (h : NewSit H H' p s cs) (e : H b = some o) : Sit K (upd H' b u) (.ref p) s cs := by
  obtain ⟨ca, n1, n2, _, h1, h2⟩ := h
  have a1 : p ≠ b := fun z => by rw [z, e] at n1; cases n1
  have a2 : ca ≠ b := fun z => by rw [z, e] at n2; cases n2
  exact ⟨p, ca, rfl, st (by rw [upd_ne a1]; exact h1), sq (by rw [upd_ne a2]; exact h2)⟩
theorem can_lt {ms : List MvT} {s : Int} {cs : List Int} (hl : ms.length ≤ 12) : ∀ k ∈ canL ms s cs, k < 100 := fun k hk => by
  obtain ⟨m, hm, _⟩ := mem_canL.mp hk
  have := (List.getElem?_eq_some_iff.mp hm).1
  omega
theorem can_len (ms : List MvT) (s : Int) (cs : List Int) : (canL ms s cs).length ≤ ms.length := filt_len _ _
theorem bump_bd {cs : List Int} {k : Nat} {z : Int} {B C : Nat} (h : ∀ c ∈ cs, c.natAbs ≤ B) (hk : k < cs.length) (hz : B + z.natAbs ≤ C) : ∀ c ∈ bump cs k z, c.natAbs ≤ C := fun c hc => by
  unfold bump at hc
  rcases List.mem_or_eq_of_mem_set hc with hc | rfl
  · have := h c hc
    omega
  · have := h _ (gd_mem hk)
    omega
theorem shiftAll_bd {B : Nat} : ∀ (sh : List (Nat × Nat)) (cs : List Int), (∀ c ∈ cs, c.natAbs ≤ B) → (∀ p ∈ sh, p.1 < cs.length ∧ p.2 < cs.length) → ∀ c ∈ shiftAll sh cs, c.natAbs ≤ B * 2 ^ sh.length
  | [], cs, h, _ => fun c hc => by have := h c hc; simpa using this
  | p :: r, cs, h, hp => fun c hc => by
    obtain ⟨p1, p2⟩ := hp p List.mem_cons_self
    have a1 := h _ (gd_mem p1)
    have a2 := h _ (gd_mem p2)
    have := shiftAll_bd (B := 2 * B) r ((cs.set p.2 (cs.getD p.2 0 + cs.getD p.1 0)).set p.1 0) (fun c hc => by
      rcases List.mem_or_eq_of_mem_set hc with hc | rfl
      · rcases List.mem_or_eq_of_mem_set hc with hc | rfl
        · have := h c hc; omega
        · omega
      · show (0 : Int).natAbs ≤ _
        exact Nat.zero_le _) (fun q hq => by rw [List.length_set, List.length_set]; exact hp q (List.mem_cons_of_mem _ hq)) c hc
    rw [List.length_cons, Nat.pow_succ]
    calc c.natAbs ≤ 2 * B * 2 ^ r.length := this
      _ = B * (2 ^ r.length * 2) := by rw [Nat.mul_comm 2 B, Nat.mul_assoc, Nat.mul_comm 2]
theorem aft_bd {m : MvT} {S B : Nat} {cs : List Int} (hf : m.Fit S cs.length) (h6 : m.sh.length ≤ 6) (h : ∀ c ∈ cs, c.natAbs ≤ B) : ∀ c ∈ m.aft cs, c.natAbs ≤ 64 * (B + 1) + 2 := by
  have h1 : ∀ c ∈ bump cs m.pl (-1), c.natAbs ≤ B + 1 := bump_bd h hf.pl (Nat.le_refl _)
  have h2 : ∀ c ∈ m.mid cs, c.natAbs ≤ 64 * (B + 1) := fun c hc => by
    have := shiftAll_bd m.sh _ h1 (fun p hp => by rw [bump_len]; exact ⟨hf.sh.fst p hp, hf.sh.snd p hp⟩) c hc
    have h3 : 2 ^ m.sh.length ≤ 2 ^ 6 := Nat.pow_le_pow_right (by decide) h6
    calc c.natAbs ≤ (B + 1) * 2 ^ m.sh.length := this
      _ ≤ (B + 1) * 2 ^ 6 := Nat.mul_le_mul_left _ h3
      _ = 64 * (B + 1) := Nat.mul_comm _ _
  have h3 : ∀ c ∈ bump (m.mid cs) m.np 1, c.natAbs ≤ 64 * (B + 1) + 1 := bump_bd h2 (by rw [mid_len]; exact hf.np) (Nat.le_refl _)
  unfold MvT.aft
  split
  · intro c hc
    have := h3 c hc
    omega
  · rename_i d hd
    exact bump_bd h3 (by rw [bump_len, mid_len]; exact hf.sd d hd) (Nat.le_refl _)
theorem inV_can {ms : List MvT} {s : Int} {cs : List Int} {k : Nat} {m : MvT} (h : ms[k]? = some m) : inV (.int ((0 : Int) + (k : Int))) ((canL ms s cs).map nV) = m.can s cs := by
  rw [Int.zero_add]
  have e := inV_nats k (canL ms s cs)
  have e2 : decide (k ∈ canL ms s cs) = m.can s cs := by
    cases hc : m.can s cs with
    | true => exact decide_eq_true (mem_canL.mpr ⟨m, h, hc⟩)
    | false =>
      refine decide_eq_false fun z => ?_
      obtain ⟨m', h', c'⟩ := mem_canL.mp z
      rw [h] at h'
      cases h'
      rw [hc] at c'
      cases c'
  rw [e2] at e
  exact e
section
variable {P : Program} {w : World} {K : PySem.W.Frag} {mg : Str → Option Value} {base : Heap}
abbrev s_law_started : Stmt := topS 22
theorem sc_law_started : FnScope ["machine", "crew", "counts", "actual", "again"] ["machine", "crew"] (defScope s_law_started) := ⟨rfl, rfl, rfl, by decide +kernel, rfl, by decide +kernel, by decide +kernel⟩
-- _law_started slots: machine=0 crew=1 counts=2 actual=3 again=4 globals: list start_with isinstance tuple
def spLStart (K : PySem.W.Frag) : Sp := fun vs H Q _ => ∃ (v : V) (M : MT) (n : Int), vs = [v, .int n] ∧ Dp K H v M.data ∧ M.Ok ∧ 0 ≤ n ∧ n ≤ 100000 ∧ ∀ H', Same H H' → Q (.bl true) H'
theorem fd_law_started {f : Addr} {fd : FuncData} (F : Fun K "_law_started" "_law_started" s_law_started f fd) (m : mg "_law_started" = some (.ref f)) (B : Bt mg) (D_start_with : Fd P w K mg base "start_with" ["machine", "crew"] 1 (spStart K)) : Fd P w K mg base "_law_started" ["machine", "crew"] 2 (spLStart K) := by
  refine ⟨f, fd, F.ok sc_law_started (fun vs H Q E h => ?_) (fun cdv A outer s H vs Q E hr h => ?_), m, F.kp, F.binds (ps := ["machine", "crew"]) fun _ _ _ _ _ _ us hl => match us, hl with | [_, _], _ => rfl⟩
  · obtain ⟨v, M, n, rfl, _⟩ := h
    rfl
  obtain ⟨v, M, n, rfl, hd, ok, hn, hn2, q⟩ := h
  have hc : M.crew < M.cnts.length := by rw [ok.cl]; exact ok.cr
  obtain ⟨a, sv, ma, xs, rfl, ha, ⟨b, ca, rfl, hb, hca⟩, _, _⟩ := dp_mt hd
  refine ⟨_, (pss_cons (ps_set (i := 2) sc_law_started.nd rfl (Or.inl rfl) (pe_callTy (cList K) (by rfl) B.list (by decide +kernel) (pa_cons (pe_ix (ixT K) (pe_ix (ixT K) (pv 0) pe_int (fun _ _ => rfl)) pe_int (fun _ _ => rfl)) pa_nil)))
 (pss_cons (ps_asg (pe_op op_add (pe_ix (ixL K) (pv 2) (pe_ix (ixT K) (pv 0) pe_int (fun _ _ => rfl)) (fun _ _ => rfl)) (pv 1)) (pg_sub (pv 2) (pe_ix (ixT K) (pv 0) pe_int (fun _ _ => rfl)) set_list))
 (pss_cons (ps_set (i := 3) sc_law_started.nd rfl (Or.inl rfl) (pe_fn D_start_with (hr.mono (by decide)) rfl (pa_cons (pv 0) (pa_cons (pv 1) pa_nil))))
 (pss_cons (ps_if (PW.pt (pw_or (pt_not (pt_val (pe_callB (cIsi K) (by rfl) B.isinstance (by decide +kernel) (pa_cons (pv 3) (pa_cons (pe_bltn (v := .ty "tuple") (by rfl) B.tuple (by decide +kernel) rfl) pa_nil))))) (pw_or1 (pt_cmpR (opNeD K hr.units) (pv 3) (pe_tup (pa_cons (pe_ix (ixT K) (pe_ix (ixT K) (pv 0) pe_int (fun _ _ => rfl)) pe_int (fun _ _ => rfl)) (pa_cons (pv 2) pa_nil))) (nomark _)))))
 (pss_one (ps_ret pe_bl))
 pss_nil)
 (pss_cons (ps_set (i := 4) sc_law_started.nd rfl (Or.inl rfl) (pe_fn D_start_with (hr.mono (by decide)) rfl (pa_cons (pv 0) (pa_cons (pv 1) pa_nil))))
 (pss_cons (ps_asg (pe_un un_neg pe_int) (pg_sub (pe_ix (ixT K) (pv 3) pe_int (fun _ _ => rfl)) pe_int set_list))
 (pss_one (ps_ret (pe_and (pe_cmpR (opEqD K hr.units) (pv 4) (pe_tup (pa_cons (pe_ix (ixT K) (pe_ix (ixT K) (pv 0) pe_int (fun _ _ => rfl)) pe_int (fun _ _ => rfl)) (pa_cons (pv 2) pa_nil))) (nomark _)) (pe_one (pe_cmpR (opEqD K hr.units) (pe_fn D_start_with (hr.mono (by decide)) rfl (pa_cons (pv 0) (pa_cons (pv 1) pa_nil))) (pe_tup (pa_cons (pe_ix (ixT K) (pe_ix (ixT K) (pv 0) pe_int (fun _ _ => rfl)) pe_int (fun _ _ => rfl)) (pa_cons (pv 2) pa_nil))) (nomark _)))))))))))), ?_⟩
  refine ⟨_, rfl, _, _, _, _, rfl, rfl, ha, atI_nat (j := 2) rfl, _, _, _, _, rfl, rfl, hb, atI_nat (j := 1) rfl, ca, _, rfl, .inl hca, fun l nl => ?_⟩
  dsimp only [gName]
  have s0 := same_new (o := HO.lst (M.cnts.map V.int)) nl
  refine ⟨_, rfl, _, rfl, _, _, _, _, rfl, rfl, Same.seqT s0 ha, atI_nat (j := 3) rfl, _, _, _, _, rfl, rfl, sq upd_same, at_gd rfl hc, _, rfl, _, _, rfl, rfl, _, rfl, _, rfl, _, _, _, _, rfl, rfl, Same.seqT s0 ha, atI_nat (j := 3) rfl, l, _, _, _, rfl, rfl, upd_same, ixN_nat (by rw [List.length_map]; exact hc), ?_⟩
  rw [set_int]
  have s1 : Same H (upd (upd H l (.lst (M.cnts.map V.int))) l (.lst ((bump M.cnts M.crew n).map V.int))) := Same.mut s0 nl
  have el : (upd (upd H l (.lst (M.cnts.map V.int))) l (.lst ((bump M.cnts M.crew n).map V.int))) l = some (.lst ((bump M.cnts M.crew n).map V.int)) := upd_same
  change tSeq _ _ _ _ (upd (upd H l (.lst (M.cnts.map V.int))) l (.lst ((bump M.cnts M.crew n).map V.int)))
  generalize upd (upd H l (.lst (M.cnts.map V.int))) l (.lst ((bump M.cnts M.crew n).map V.int)) = H1 at s1 el ⊢
  have bd : ∀ c ∈ bump M.cnts M.crew n, c.natAbs < 10 ^ 7 := fun c hc' => by
    have := bump_bd (B := 3) (C := 100003) (fun c h => by have := ok.cb c h; omega) hc (by omega) c hc'
    omega
  have blen : (bump M.cnts M.crew n).length = M.places := by rw [bump_len, ok.cl]
  generalize hbm : bump M.cnts M.crew n = cs at el bd blen
  have nc : NcD (sitD M.sst cs) (cs.length + 3) 2 := sit_nc (by have := ok.ss; have := ok.s2; omega) bd
  have shp := nc.shaped (by decide)
  have eqv := nc.eqv
  have dM1 := dp_mono s1 hd
  have pair : ∀ {H' : Hp} {t : Addr}, H' t = some (.tup [.int (M.sst : Int), .ref l]) → H' l = some (.lst (cs.map V.int)) → Dp K H' (.ref t) (sitD M.sst cs) := fun e1 e2 => sit_dp ⟨_, l, rfl, st e1, sq e2⟩
  refine ⟨_, rfl, _, rfl, _, M, n, rfl, dM1, hn, hc, fun H2 p2 s2 new2 => ?_⟩
  rw [hbm] at new2
  have new2' := new2
  obtain ⟨c2, np2, nc2, cp2, ep2, ec2⟩ := new2'
  dsimp only [gName]
  refine orM (ans_not (ansIsi (T := "tuple") (b := true) (fun Q q => ⟨_, rfl, q⟩) (.base (.tup ep2)) (by decide +kernel))) ?_
  have s12 := s1.trans s2
  refine ⟨_, rfl, _, rfl, _, _, _, _, rfl, rfl, Same.seqT s12 ha, atI_nat (j := 2) rfl, _, _, _, _, rfl, rfl, Same.seqT s12 hb, atI_nat (j := 0) rfl, _, rfl, szc 2, fun t3 nt3 => ?_⟩
  have s3 := same_new (o := HO.tup [.int (M.sst : Int), .ref l]) nt3
  refine ⟨_, _, dp_mono s3 (sit_dp new2.sit), pair upd_same (s3 _ _ (s2 _ _ el)), shp, shp, _, rfl, ?_⟩
  rw [nvM eqv]
  refine iteF ?_
  have s13 := s12.trans s3
  have s23 := s2.trans s3
  have ec3 := s3 _ _ ec2
  have ep3 := s3 _ _ ep2
  clear new2
  generalize upd H2 t3 (.tup [.int (M.sst : Int), .ref l]) = H3 at s3 s13 s23 ec3 ep3 ⊢
  -- again
  refine ⟨_, rfl, _, rfl, _, M, n, rfl, dp_mono s13 hd, hn, hc, fun H4 p4 s4 new4 => ?_⟩
  rw [hbm] at new4
  dsimp only [gName]
  have s14 := s13.trans s4
  refine ⟨_, rfl, _, rfl, _, _, _, _, rfl, rfl, st (s4 _ _ ep3), atI_nat (j := 1) rfl, c2, _, _, 0, rfl, rfl, s4 _ _ ec3, ixN_nat (j := 0) (by rw [List.length_map]; have := ok.p1; omega), ?_⟩
  have sit4 : ∀ u, Sit K (upd H4 c2 u) (.ref p4) M.sst cs := fun u => new4.mut ec3
  have nc2' : H c2 = none := s1.free nc2
  have lc : l ≠ c2 := fun e => by rw [← e, el] at nc2; cases nc2
  have s15 : ∀ u, Same H (upd H4 c2 u) := fun u => Same.mut s14 nc2'
  have el5 : ∀ u, (upd H4 c2 u) l = some (.lst (cs.map V.int)) := fun u => by
    rw [upd_ne lc]
    exact s4 _ _ (s23 _ _ el)
  refine ⟨_, rfl, _, rfl, _, _, _, _, rfl, rfl, Same.seqT (s15 _) ha, atI_nat (j := 2) rfl, _, _, _, _, rfl, rfl, Same.seqT (s15 _) hb, atI_nat (j := 0) rfl, _, rfl, szc 2, fun t6 nt6 => ?_⟩
  have s6 := same_new (o := HO.tup [.int (M.sst : Int), .ref l]) nt6
  refine ⟨_, _, dp_mono s6 (sit_dp (sit4 _)), pair upd_same (s6 _ _ (el5 _)), shp, shp, _, rfl, ?_⟩
  rw [eqv]
  refine iteT ?_
  refine ⟨_, rfl, _, rfl, _, M, n, rfl, dp_mono ((s15 _).trans s6) hd, hn, hc, fun H7 p7 s7 new7 => ?_⟩
  rw [hbm] at new7
  have s67 := s6.trans s7
  have s57 := (s15 _).trans s67
  refine ⟨_, rfl, _, _, _, _, rfl, rfl, Same.seqT s57 ha, atI_nat (j := 2) rfl, _, _, _, _, rfl, rfl, Same.seqT s57 hb, atI_nat (j := 0) rfl, _, rfl, szc 2, fun t8 nt8 => ?_⟩
  have s8 := same_new (o := HO.tup [.int (M.sst : Int), .ref l]) nt8
  refine ⟨_, _, dp_mono s8 (sit_dp new7.sit), pair upd_same (s8 _ _ (s67 _ _ (el5 _))), shp, shp, ?_⟩
  rw [eqv]
  exact q _ (s57.trans s8)
end
section
variable {P : Program} {w : World} {K : PySem.W.Frag} {mg : Str → Option Value} {base : Heap}
abbrev s_law : Stmt := topS 23
theorem sc_law : FnScope ["script", "machine", "before", "cell", "draws", "situation", "kept", "can", "told", "again", "k", "due", "actual", "count"] ["script"] (defScope s_law) := ⟨rfl, rfl, rfl, by decide +kernel, rfl, by decide +kernel, by decide +kernel⟩
-- law slots: script=0 machine=1 before=2 cell=3 draws=4 situation=5 kept=6 can=7 told=8 again=9 k=10 due=11 actual=12 count=13 globals: _law_machine _law_cell repr _law_draws int list _law_can possible_moves isinstance range len is_possible bool _law_after after tuple _law_not_possible _law_no_move _law_started _law_no_crew
def spLaw (K : PySem.W.Frag) : Sp := fun vs H Q _ => ∃ (a : Addr) (ns : List Int), vs = [.ref a] ∧ SqL K H a (ns.map V.int) ∧ ns.length ≤ 63 ∧ ∀ H', Q (.bl true) H'
theorem cut_six {x0 x1 x2 x3 x4 x5 x6 x7 : V} {P : Nat} (h1 : 1 ≤ P) (h6 : P ≤ 6) : cutV [x0, x1, x2, x3, x4, x5, x6, x7] (some 2) (some (2 + (P : Int))) = [x2, x3, x4, x5, x6, x7].take P := by
  have : P = 1 ∨ P = 2 ∨ P = 3 ∨ P = 4 ∨ P = 5 ∨ P = 6 := by omega
  rcases this with rfl | rfl | rfl | rfl | rfl | rfl <;> rfl
theorem fd_law {f : Addr} {fd : FuncData} (F : Fun K "law" "law" s_law f fd) (m : mg "law" = some (.ref f)) (bind : ∀ (s : Shared) (v : Value), BindsTo s fd ⟨[v], []⟩ [("script", v)]) (B : Bt mg)
    (D_law_cell : Fd P w K mg base "_law_cell" ["script", "k"] 1 (spCellA K)) (D_law_draws : Fd P w K mg base "_law_draws" ["cell", "limits"] 1 (spDraws K)) (D_law_machine : Fd P w K mg base "_law_machine" ["cell", "cells", "shifting"] 3 (spMach K))
    (D_law_after : Fd P w K mg base "_law_after" ["move", "counts"] 1 (spLAft K)) (D_law_can : Fd P w K mg base "_law_can" ["machine", "situation"] 1 (spPoss K)) (D_law_no_move : Fd P w K mg base "_law_no_move" ["machine", "situation", "move"] 3 (spLNM K)) (D_law_not_possible : Fd P w K mg base "_law_not_possible" ["machine", "situation", "move"] 3 (spLNP K))
    (D_law_no_crew : Fd P w K mg base "_law_no_crew" ["machine", "crew"] 2 (spLNC K)) (D_law_started : Fd P w K mg base "_law_started" ["machine", "crew"] 2 (spLStart K))
    (D_possible_moves : Fd P w K mg base "possible_moves" ["machine", "situation"] 2 (spPoss K)) (D_is_possible : Fd P w K mg base "is_possible" ["machine", "situation", "move"] 2 (spIsPos K)) (D_after : Fd P w K mg base "after" ["machine", "situation", "move"] 2 (spAft K)) :
    TopOk P w K mg base f (spLaw K) := by
  refine top_ok (k := 4) F sc_law (by refine ⟨rfl, ?_, ?_⟩ <;> decide +kernel) bind fun cdv s H a Q hr h => ?_
  obtain ⟨a1, ns, ea, hs, hl, q⟩ := h
  cases ea
  refine ⟨_, (pss_cons (ps_set (i := 1) sc_law.nd rfl (Or.inl rfl) (pe_fn D_law_machine (hr.mono (by decide)) rfl (pa_cons (pe_fn D_law_cell (hr.mono (by decide)) rfl (pa_cons (pv 0) (pa_cons pe_int pa_nil))) (pa_cons (pe_slice (slL K) (pv 0) (po_some pe_int) (po_some pe_int)) (pa_cons pe_bl pa_nil)))))
 (pss_cons (ps_set (i := 2) sc_law.nd rfl (Or.inl rfl) (pe_callB (cRepr K rfl hr.units) (by rfl) B.repr (by decide +kernel) (pa_cons (pv 1) pa_nil)))
 (pss_cons (ps_for PassesOwn.never rfl (piL K (pe_op (opCat K) (pe_lst (pa_cons pe_int pa_nil)) (pe_slice (slL K) (pv 0) (po_some pe_int) (po_some pe_int)))) (pg_name (i := 3) sc_law.nd rfl (Or.inl rfl))
 (pss_cons (ps_set (i := 4) sc_law.nd rfl (Or.inl rfl) (pe_fn D_law_draws (hr.mono (by decide)) rfl (pa_cons (pv 3) (pa_cons (pe_op (opCat K) (pe_lst (pa_cons pe_int (pa_cons pe_int pa_nil))) (pe_op op_rep (pe_lst (pa_cons pe_int pa_nil)) pe_int)) pa_nil))))
 (pss_cons (ps_set (i := 5) sc_law.nd rfl (Or.inl rfl) (pe_tup (pa_cons (pe_op op_mod (pe_callTy call_int1 (by rfl) B.int (by decide +kernel) (pa_cons (pe_ix (ixL K) (pv 4) pe_int (fun _ _ => rfl)) pa_nil)) (pe_ix (ixT K) (pv 1) pe_int (fun _ _ => rfl))) (pa_cons (pe_slice (slL K) (pv 4) (po_some pe_int) (po_some (pe_op op_add pe_int (pe_ix (ixT K) (pv 1) pe_int (fun _ _ => rfl))))) pa_nil))))
 (pss_cons (ps_set (i := 6) sc_law.nd rfl (Or.inl rfl) (pe_tup (pa_cons (pe_ix (ixT K) (pv 5) pe_int (fun _ _ => rfl)) (pa_cons (pe_callTy (cList K) (by rfl) B.list (by decide +kernel) (pa_cons (pe_ix (ixT K) (pv 5) pe_int (fun _ _ => rfl)) pa_nil)) pa_nil))))
 (pss_cons (ps_set (i := 7) sc_law.nd rfl (Or.inl rfl) (pe_fn D_law_can (hr.mono (by decide)) rfl (pa_cons (pv 1) (pa_cons (pv 5) pa_nil))))
 (pss_cons (ps_set (i := 8) sc_law.nd rfl (Or.inl rfl) (pe_fn D_possible_moves (hr.mono (by decide)) rfl (pa_cons (pv 1) (pa_cons (pv 5) pa_nil))))
 (pss_cons (ps_if (PW.pt (pw_or (pt_not (pt_val (pe_callB (cIsi K) (by rfl) B.isinstance (by decide +kernel) (pa_cons (pv 8) (pa_cons (pe_bltn (v := .ty "list") (by rfl) B.list (by decide +kernel) rfl) pa_nil))))) (pw_or (pt_cmpR (opNeD K hr.units) (pv 8) (pv 7) (nomark _)) (pw_or1 (pt_cmpR (opNeD K hr.units) (pv 5) (pv 6) (nomark _))))))
 (pss_one (ps_ret pe_bl))
 pss_nil)
 (pss_cons (ps_set (i := 9) sc_law.nd rfl (Or.inl rfl) (pe_fn D_possible_moves (hr.mono (by decide)) rfl (pa_cons (pv 1) (pa_cons (pv 5) pa_nil))))
 (pss_cons (ps_expr (peBm K PySem.F.plainAttrs_list PySem.F.slot_list_append PySem.F.type_list_append mt_append (pv 8) (pa_cons (pe_un un_neg pe_int) pa_nil)))
 (pss_cons (ps_if (PW.pt (pw_or (pt_cmpR (opNeD K hr.units) (pv 9) (pv 7) (nomark _)) (pw_or1 (pt_cmpR (opNeD K hr.units) (pe_fn D_possible_moves (hr.mono (by decide)) rfl (pa_cons (pv 1) (pa_cons (pv 5) pa_nil))) (pv 7) (nomark _)))))
 (pss_one (ps_ret pe_bl))
 pss_nil)
 (pss_cons (ps_for PassesOwn.never rfl (pi_range1 rfl B.range (pa_cons (pe_callB (cLen K) (by rfl) B.len PySem.boot_len (pa_cons (pe_ix (ixT K) (pv 1) pe_int (fun _ _ => rfl)) pa_nil)) pa_nil)) (pg_name (i := 10) sc_law.nd rfl (Or.inl rfl))
 (pss_cons (ps_set (i := 8) sc_law.nd rfl (Or.inl rfl) (pe_fn D_is_possible (hr.mono (by decide)) rfl (pa_cons (pv 1) (pa_cons (pv 5) (pa_cons (pv 10) pa_nil)))))
 (pss_cons (ps_if (PW.pt (pw_or (pt_not (pt_val (pe_callB (cIsi K) (by rfl) B.isinstance (by decide +kernel) (pa_cons (pv 8) (pa_cons (pe_bltn (v := .ty "bool") (by rfl) B.bool (by decide +kernel) rfl) pa_nil))))) (pw_or1 (pt_cmpR op_ne (pv 8) (pe_cmpR (opIn K) (pv 10) (pv 7) (by rfl)) (nomark _)))))
 (pss_one (ps_ret pe_bl))
 pss_nil)
 (pss_one (ps_if (pt_cmpR (opIn K) (pv 10) (pv 7) (by rfl))
 (pss_cons (ps_set (i := 11) sc_law.nd rfl (Or.inl rfl) (pe_fn D_law_after (hr.mono (by decide)) rfl (pa_cons (pe_ix (ixL K) (pe_ix (ixT K) (pv 1) pe_int (fun _ _ => rfl)) (pv 10) (fun _ _ => rfl)) (pa_cons (pe_ix (ixT K) (pv 5) pe_int (fun _ _ => rfl)) pa_nil))))
 (pss_cons (ps_set (i := 12) sc_law.nd rfl (Or.inl rfl) (pe_fn D_after (hr.mono (by decide)) rfl (pa_cons (pv 1) (pa_cons (pv 5) (pa_cons (pv 10) pa_nil)))))
 (pss_cons (ps_if (PW.pt (pw_or (pt_not (pt_val (pe_callB (cIsi K) (by rfl) B.isinstance (by decide +kernel) (pa_cons (pv 12) (pa_cons (pe_bltn (v := .ty "tuple") (by rfl) B.tuple (by decide +kernel) rfl) pa_nil))))) (pw_or (pt_cmpR (opNeD K hr.units) (pv 12) (pv 11) (nomark _)) (pw_or (pt_not (pt_val (pe_callB (cIsi K) (by rfl) B.isinstance (by decide +kernel) (pa_cons (pe_ix (ixT K) (pv 12) pe_int (fun _ _ => rfl)) (pa_cons (pe_bltn (v := .ty "list") (by rfl) B.list (by decide +kernel) rfl) pa_nil))))) (pw_or1 (pt_cmpR (opNeD K hr.units) (pv 5) (pv 6) (nomark _)))))))
 (pss_one (ps_ret pe_bl))
 pss_nil)
 (pss_cons (ps_set (i := 9) sc_law.nd rfl (Or.inl rfl) (pe_fn D_after (hr.mono (by decide)) rfl (pa_cons (pv 1) (pa_cons (pv 5) (pa_cons (pv 10) pa_nil)))))
 (pss_cons (ps_asg (pe_un un_neg pe_int) (pg_sub (pe_ix (ixT K) (pv 12) pe_int (fun _ _ => rfl)) pe_int set_list))
 (pss_one (ps_if (PW.pt (pw_or (pt_cmpR (opNeD K hr.units) (pv 9) (pv 11) (nomark _)) (pw_or1 (pt_cmpR (opNeD K hr.units) (pe_fn D_after (hr.mono (by decide)) rfl (pa_cons (pv 1) (pa_cons (pv 5) (pa_cons (pv 10) pa_nil)))) (pv 11) (nomark _)))))
 (pss_one (ps_ret pe_bl))
 pss_nil)))))))
 (pss_one (ps_if (pt_not (pt_val (pe_fn D_law_not_possible (hr.mono (by decide)) rfl (pa_cons (pv 1) (pa_cons (pv 5) (pa_cons (pv 10) pa_nil))))))
 (pss_one (ps_ret pe_bl))
 pss_nil)))))))
 (pss_cons (ps_set (i := 13) sc_law.nd rfl (Or.inl rfl) (pe_callB (cLen K) (by rfl) B.len PySem.boot_len (pa_cons (pe_ix (ixT K) (pv 1) pe_int (fun _ _ => rfl)) pa_nil)))
 (pss_cons (ps_if (PW.pt (pw_or (pt_not (pt_val (pe_fn D_law_no_move (hr.mono (by decide)) rfl (pa_cons (pv 1) (pa_cons (pv 5) (pa_cons (pe_op op_add (pv 13) (pe_ix (ixL K) (pv 4) pe_int (fun _ _ => rfl))) pa_nil)))))) (pw_or1 (pt_not (pt_val (pe_fn D_law_no_move (hr.mono (by decide)) rfl (pa_cons (pv 1) (pa_cons (pv 5) (pa_cons (pe_op op_sub (pe_un un_neg pe_int) (pe_ix (ixL K) (pv 4) pe_int (fun _ _ => rfl))) pa_nil)))))))))
 (pss_one (ps_ret pe_bl))
 pss_nil)
 (pss_one (ps_if (PW.pt (pw_or (pt_not (pt_val (pe_fn D_law_started (hr.mono (by decide)) rfl (pa_cons (pv 1) (pa_cons (pe_ix (ixL K) (pv 4) pe_int (fun _ _ => rfl)) pa_nil))))) (pw_or (pt_not (pt_val (pe_fn D_law_no_crew (hr.mono (by decide)) rfl (pa_cons (pv 1) (pa_cons (pe_op op_sub (pe_un un_neg pe_int) (pe_ix (ixL K) (pv 4) pe_int (fun _ _ => rfl))) pa_nil))))) (pw_or1 (pt_cmpR (opNeD K hr.units) (pv 5) (pv 6) (nomark _))))))
 (pss_one (ps_ret pe_bl))
 pss_nil)))))))))))))))
 (pss_one (ps_ret (pe_and (pe_fn D_law_started (hr.mono (by decide)) rfl (pa_cons (pv 1) (pa_cons pe_int pa_nil))) (pe_one (pe_cmpR op_eq (pe_callB (cRepr K rfl hr.units) (by rfl) B.repr (by decide +kernel) (pa_cons (pv 1) pa_nil)) (pv 2) (nomark _))))))))), ?_⟩
  obtain ⟨ys, ey, hy, _⟩ := cutV_map V.int ns (some 1) (some 13)
  refine ⟨_, rfl, a, ns, 0, rfl, hs, fun c0 => ⟨_, rfl, _, rfl, _, rfl, a, _, rfl, hs, fun p1 n1 => ⟨c0, p1, ys, true, rfl, sq (by rw [upd_same, ey]), by omega, ?_⟩⟩⟩
  intro H1 v M s1 dM ok l6 _
  have sm1 := (same_new n1).trans s1
  clear s1 n1
  have shw := (mt_nc ok l6).shw (by decide) (by decide)
  obtain ⟨am, sv, ma, mxs, rfl, ham, _, hma, hmxs⟩ := dp_mt dM
  have mxl := dpa_map_len hmxs
  dsimp only [gName]
  refine ⟨_, rfl, am, _, rfl, dM, shw.sh, shw.nd, shw.de, shw.ln, ?_⟩
  dsimp only [gName]
  obtain ⟨zs, ez, hz0, _⟩ := cutV_map V.int ns (some 13) (some 30)
  refine ⟨szc 1, fun p2 n2 => ⟨_, rfl, _, rfl, _, rfl, a, _, rfl, (sm1.trans (same_new n2)).seq hs, fun p3 n3 => ?_⟩⟩
  have e2 : (upd (upd H1 p2 (.lst [.int 0])) p3 (.lst (cutV (ns.map V.int) (some 13) (some 30)))) p2 = some (.lst [.int 0]) := (same_new n3) _ _ upd_same
  have s13 := (same_new (o := HO.lst [.int 0]) n2).trans (same_new (o := HO.lst (cutV (ns.map V.int) (some 13) (some 30))) n3)
  refine ⟨p2, p3, [.int 0], zs.map V.int, rfl, rfl, sq e2, sq (by rw [upd_same, ez]), sz (by rw [List.length_map]; show 1 + zs.length ≤ _; omega), fun p4 n4 => ?_⟩
  have e4 : (upd (upd (upd H1 p2 (.lst [.int 0])) p3 (.lst (cutV (ns.map V.int) (some 13) (some 30)))) p4 (.lst ([V.int 0] ++ zs.map V.int))) p4 = some (.lst ((0 :: zs).map V.int)) := upd_same
  have s14 := s13.trans (same_new (o := HO.lst ([V.int 0] ++ zs.map V.int)) n4)
  clear e2 s13 n2 n3 n4
  refine ⟨p4, rfl, ⟨_, sq e4⟩, ?_⟩
  generalize upd (upd (upd H1 p2 (.lst [.int 0])) p3 (.lst (cutV (ns.map V.int) (some 13) (some 30)))) p4 (.lst ([V.int 0] ++ zs.map V.int)) = H2 at e4 s14 ⊢
  have dM2 := dp_mono s14 dM
  have ham2 := Same.seqT s14 ham
  refine for_list (xs := (0 :: zs).map V.int) (fun i σ' H' => ∃ y3 y4 y5 y6 y7 y8 y9 y10 y11 y12 y13 : Option V, σ' = [some (.ref a), some (.ref am), some (.str M.data.shown), y3, y4, y5, y6, y7, y8, y9, y10, y11, y12, y13] ∧ Same H2 H') ?_ ?_ ?_ ?_
  · exact ⟨_, _, _, _, _, _, _, _, _, _, _, rfl, Same.refl _⟩
  · rintro i σ' H' _ ⟨y3, y4, y5, y6, y7, y8, y9, y10, y11, y12, y13, rfl, sm⟩
    exact sm.seq (sq e4)
  · rintro i x σ' H3 hx ⟨y3, y4, y5, y6, y7, y8, y9, y10, y11, y12, y13, rfl, s23⟩
    obtain ⟨z, _, rfl⟩ := get_map_inv hx
    dsimp only [gName]
    -- the draws
    refine ⟨_, rfl, szc 2, fun p1 n1 => ⟨szc 1, fun p2 n2 => ⟨p2, _, _, rfl, rfl, upd_same, by decide, by decide, sz (by decide), fun p3 n3 => ?_⟩⟩⟩
    have e1 : (upd (upd (upd H3 p1 (.lst [.int 4, .int 1000])) p2 (.lst [.int 6])) p3 (.lst (List.replicate (6 : Int).toNat [V.int 6]).flatten)) p1 = some (.lst [.int 4, .int 1000]) := (same_new n3) _ _ ((same_new n2) _ _ upd_same)
    refine ⟨_, _, _, _, rfl, rfl, sq e1, sq upd_same, sz (by decide), fun p4 n4 => ?_⟩
    refine ⟨p4, z, [4, 1000, 6, 6, 6, 6, 6, 6], rfl, sq upd_same, by decide, by decide, fun H4 pd ds s4 nd ed dk => ?_⟩
    have s34 : Same H3 H4 := (((same_new n1).trans (same_new n2)).trans (same_new n3)).trans ((same_new n4).trans s4)
    clear e1 s4 n1 n2 n3 n4 nd
    obtain ⟨x0, r0, rfl, x00, x01, dk⟩ := dk.cons
    obtain ⟨x1, r1, rfl, x10, x11, dk⟩ := dk.cons
    obtain ⟨x2, r2, rfl, x20, x21, dk⟩ := dk.cons
    obtain ⟨x3, r3, rfl, x30, x31, dk⟩ := dk.cons
    obtain ⟨x4, r4, rfl, x40, x41, dk⟩ := dk.cons
    obtain ⟨x5, r5, rfl, x50, x51, dk⟩ := dk.cons
    obtain ⟨x6, r6, rfl, x60, x61, dk⟩ := dk.cons
    obtain ⟨x7, r7, rfl, x70, x71, dk⟩ := dk.cons
    obtain rfl := dk.nil
    have sd := sq (K := K) ed
    have s24 := s23.trans s34
    have ham4 := Same.seqT s24 ham2
    have ps : (0 : Int) < (M.states : Int) := by have := ok.s1; omega
    dsimp only [gName]
    -- the situation
    refine ⟨_, rfl, _, _, _, _, rfl, rfl, sd, atI_nat (j := 0) rfl, .inl ⟨_, rfl, _, rfl, _, _, _, _, rfl, rfl, ham4, atI_nat (j := 0) rfl, _, _, rfl, rfl, ps, ?_⟩⟩
    refine ⟨_, rfl, _, rfl, _, rfl, _, _, _, _, rfl, rfl, ham4, atI_nat (j := 1) rfl, _, _, rfl, rfl, _, rfl, pd, _, rfl, sd, fun p np => ⟨szc 2, fun t nt => ?_⟩⟩
    have cN : cutV ([x0, x1, x2, x3, x4, x5, x6, x7].map V.int) (some 2) (some (2 + (M.places : Int))) = ([x2, x3, x4, x5, x6, x7].take M.places).map V.int := by
      rw [List.map_take]
      exact cut_six ok.p1 ok.p2
    have ms0 := mod_in x0 ps
    have clen : ([x2, x3, x4, x5, x6, x7].take M.places).length = M.places := by rw [List.length_take]; have := ok.p2; show min M.places 6 = _; omega
    have cbd : ∀ c ∈ [x2, x3, x4, x5, x6, x7].take M.places, c.natAbs ≤ 6 := by
      intro x hx
      have hx := List.mem_of_mem_take hx
      simp only [List.mem_cons, List.not_mem_nil, or_false] at hx
      rcases hx with rfl | rfl | rfl | rfl | rfl | rfl <;> omega
    have sit5 : Sit K _ (.ref t) (x0 % (M.states : Int)) ([x2, x3, x4, x5, x6, x7].take M.places) := ⟨t, p, rfl, st upd_same, (same_new nt).seq (sq (by rw [upd_same]; exact congrArg (fun z => some (HO.lst z)) cN))⟩
    have s45 := (same_new np).trans (same_new (o := HO.tup [V.int (x0 % (M.states : Int)), .ref p]) nt)
    have sd5 := s45.seq sd
    have s25 := s24.trans s45
    dsimp only [gName]
    have hgo : ∀ H5 : Hp, Sit K H5 (.ref t) (x0 % (M.states : Int)) ([x2, x3, x4, x5, x6, x7].take M.places) → Same H2 H5 → H5 pd = some (.lst ([x0, x1, x2, x3, x4, x5, x6, x7].map V.int)) → True := fun _ _ _ _ => trivial
    have ed5 := s45 _ _ ed
    clear s45 cN nt np
    generalize hH5 : upd (upd H4 p (.lst (cutV ([x0, x1, x2, x3, x4, x5, x6, x7].map V.int) (some 2) (some (2 + (M.places : Int)))))) t (.tup [.int (x0 % (M.states : Int)), .ref p]) = H5 at sit5 s25 sd5 ed5 ⊢
    clear hH5 hgo
    generalize [x2, x3, x4, x5, x6, x7].take M.places = cs at clen cbd sit5
    generalize x0 % (M.states : Int) = st0 at ms0 sit5
    obtain ⟨_, ca, et, hsit, hca⟩ := id sit5
    cases et
    -- kept
    refine ⟨_, rfl, _, _, _, _, rfl, rfl, hsit, atI_nat (j := 0) rfl, _, rfl, _, _, _, _, rfl, rfl, hsit, atI_nat (j := 1) rfl, ca, _, rfl, .inl hca, fun l nl => ⟨szc 2, fun t2 nt2 => ?_⟩⟩
    have s56 := (same_new (o := HO.lst (cs.map V.int)) nl).trans (same_new (o := HO.tup [.int st0, .ref l]) nt2)
    have kept6 : Sit K (upd (upd H5 l (.lst (cs.map V.int))) t2 (.tup [.int st0, .ref l])) (.ref t2) st0 cs := ⟨t2, l, rfl, st upd_same, (same_new nt2).seq (sq upd_same)⟩
    dsimp only [gName]
    clear nl nt2
    generalize upd (upd H5 l (.lst (cs.map V.int))) t2 (.tup [.int st0, .ref l]) = H6 at s56 kept6 ⊢
    have s26 := s25.trans s56
    have sit6 := Same.sit s56 sit5
    have ed6 := s56 _ _ ed5
    have fitc : ∀ m ∈ M.moves, m.Fit M.states cs.length := fun m hm => by rw [clen]; exact ok.fit m hm
    have hpl : ∀ m ∈ M.moves, m.pl < cs.length := fun m hm => (fitc m hm).pl
    have ml := ok.ml
    have ncs : NcD (sitD st0 cs) (cs.length + 3) 2 := sit_nc (by have := ok.s2; omega) fun c hc => by have := cbd c hc; omega
    have shp := ncs.shaped (by decide)
    have eqv := ncs.eqv
    have ncc : NcD (.list ((canL M.moves st0 cs).map nD)) ((canL M.moves st0 cs).length + 1) 1 := NcL.lst (nats_nc (can_lt ml))
    have shc := ncc.shaped (by decide)
    have eqc := ncc.eqv
    have cl := can_len M.moves st0 cs
    -- can
    refine ⟨_, rfl, _, rfl, _, _, M, st0, cs, rfl, dp_mono s26 dM2, sit6, hpl, by omega, fun H7 pc s67 npc epc => ?_⟩
    have s27 := s26.trans s67
    have dpc : ∀ {H' : Hp} {p : Addr}, H' p = some (.lst ((canL M.moves st0 cs).map nV)) → Dp K H' (.ref p) (.list ((canL M.moves st0 cs).map nD)) := fun e => .lst (sq e) (dpa_nVs _)
    dsimp only [gName]
    -- told
    refine ⟨_, rfl, _, rfl, _, _, M, st0, cs, rfl, dp_mono s27 dM2, Same.sit s67 sit6, hpl, by omega, fun H8 pt s78 npt ept => ?_⟩
    have s68 := s67.trans s78
    have s28 := s27.trans s78
    dsimp only [gName]
    refine orM (ans_not (ansIsi (T := "list") (b := true) (fun Q q => ⟨_, rfl, q⟩) (.base (.lst ept)) (by decide +kernel))) ?_
    refine ⟨_, rfl, _, rfl, _, _, dpc ept, dpc (s78 _ _ epc), shc, shc, _, rfl, ?_⟩
    rw [nvM eqc]
    refine iteF ?_
    refine ⟨_, rfl, _, rfl, _, _, sit_dp (Same.sit s68 sit6), sit_dp (Same.sit s68 kept6), shp, shp, _, rfl, ?_⟩
    rw [nvM eqv]
    refine iteF ?_
    -- again
    refine ⟨_, rfl, _, rfl, _, _, M, st0, cs, rfl, dp_mono s28 dM2, Same.sit s68 sit6, hpl, by omega, fun H9 pg s89 npg epg => ?_⟩
    dsimp only [gName]
    refine ⟨_, rfl, .inl ⟨rfl, _, sq (s89 _ _ ept)⟩, _, rfl, pt, _, _, rfl, rfl, s89 _ _ ept, szl (by rw [List.length_map]; omega), ?_⟩
    have npt2 : H2 pt = none := s27.free npt
    have npt6 : H6 pt = none := s67.free npt
    have pgt : pg ≠ pt := fun e => by rw [e, ept] at npg; cases npg
    have pct : pc ≠ pt := fun e => by rw [← e, epc] at npt; cases npt
    have sA2 : ∀ u, Same H2 (upd H9 pt u) := fun u => Same.mut (s28.trans s89) npt2
    have sA6 : ∀ u, Same H6 (upd H9 pt u) := fun u => Same.mut (s68.trans s89) npt6
    have eAg : ∀ u, (upd H9 pt u) pg = some (.lst ((canL M.moves st0 cs).map nV)) := fun u => by rw [upd_ne pgt]; exact epg
    have eAc : ∀ u, (upd H9 pt u) pc = some (.lst ((canL M.moves st0 cs).map nV)) := fun u => by rw [upd_ne pct]; exact s89 _ _ (s78 _ _ epc)
    refine ⟨_, rfl, _, rfl, _, _, dpc (eAg _), dpc (eAc _), shc, shc, _, rfl, ?_⟩
    rw [nvM eqc]
    refine iteF ?_
    refine ⟨_, rfl, _, rfl, _, _, M, st0, cs, rfl, dp_mono (sA2 _) dM2, Same.sit (sA6 _) sit6, hpl, by omega, fun HB pb sB npb epb => ?_⟩
    refine ⟨_, rfl, _, _, dpc epb, dpc (sB _ _ (eAc _)), shc, shc, _, rfl, ?_⟩
    rw [nvM eqc]
    refine iteF ?_
    have s2B := (sA2 _).trans sB
    have s6B := (sA6 _).trans sB
    have ecB := sB _ _ (eAc _)
    have ed2 := s6B _ _ ed6
    have sitB := Same.sit s6B sit6
    have keptB := Same.sit s6B kept6
    clear eAg eAc sA2 sA6 pgt pct npt2 npt6 epb npb
    have hmaB := ((s14.trans s2B).seq hma)
    have hamB := Same.seqT s2B ham2
    have dMB := dp_mono s2B dM2
    have dmxB := dpAll_mono (s14.trans s2B) hmxs
    have hsitB := Same.seqT (s56.trans s6B) hsit
    have hcaB := (s56.trans s6B).seq hca
    dsimp only [gName]
    refine ⟨_, rfl, _, _, _, _, rfl, rfl, hamB, atI_nat (j := 4) rfl, ma, _, rfl, .inl hmaB, _, rfl, by omega, by omega, for_range (lo := 0) (n := mxs.length) (fun k σ' H' => ∃ w8 w9 w10 w11 w12 : Option V, σ' = [some (.ref a), some (.ref am), some (.str M.data.shown), some (.int z), some (.ref pd), some (.ref t), some (.ref t2), some (.ref pc), w8, w9, w10, w11, w12, y13] ∧ Same HB H') ?_ ?_ ?_⟩
    · exact ⟨_, _, _, _, _, rfl, Same.refl _⟩
    · rintro k σ' H1 hk ⟨w8, w9, w10, w11, w12, rfl, sB1⟩
      have hz : (0 : Int) + (k : Int) = (k : Int) := by omega
      obtain ⟨mv, hmv, dmv⟩ := dpa_map_at dmxB (List.getElem?_eq_getElem hk)
      have hmm := List.mem_of_getElem? hmv
      have hin : inV (.int ((0 : Int) + (k : Int))) ((canL M.moves st0 cs).map nV) = mv.can st0 cs := inV_can hmv
      dsimp only [gName]
      refine ⟨_, rfl, _, rfl, _, rfl, _, _, M, k, mv, st0, cs, congrArg (fun z => [V.ref am, V.ref t, V.int z]) hz, dp_mono sB1 dMB, Same.sit sB1 sitB, hmv, hpl mv hmm, ?_⟩
      dsimp only [gName]
      refine orM (ans_not (ansIsi (T := "bool") (b := true) (fun Q q => ⟨_, rfl, q⟩) (.base (.bl _)) (by decide +kernel))) ?_
      refine ⟨_, rfl, _, rfl, _, rfl, pc, _, rfl, .inl (sq (sB1 _ _ ecB)), rfl, flat_nats _, rfl, _, rfl, iteFx (by rw [if_neg Bool.false_ne_true, hin]; exact nbM _) ?_⟩
      refine ⟨_, rfl, _, rfl, pc, _, rfl, .inl (sq (sB1 _ _ ecB)), rfl, flat_nats _, _, rfl, ?_⟩
      rw [if_neg Bool.false_ne_true, hin]
      cases hcan : mv.can st0 cs with
      | false =>
        refine iteF ⟨_, rfl, _, rfl, _, rfl, _, _, M, k, mv, st0, cs, congrArg (fun z => [V.ref am, V.ref t, V.int z]) hz, dp_mono sB1 dMB, Same.sit sB1 sitB, hmv, hpl mv hmm, hcan, fun H2' s2' => ⟨true, rfl, iteF ?_⟩⟩
        exact ⟨_, _, _, _, _, rfl, sB1.trans s2'⟩
      | true =>
        refine iteT ?_
        have hfit := fitc mv hmm
        have nca : NcD (sitD mv.ns (mv.aft cs)) ((mv.aft cs).length + 3) 2 := sit_nc (by have := hfit.ns; have := ok.s2; omega) fun c hc => by
          have := aft_bd hfit (l6 mv hmm) cbd c hc
          omega
        have sha := nca.shaped (by decide)
        have eqa := nca.eqv
        -- due
        refine ⟨_, rfl, _, _, _, _, rfl, rfl, Same.seqT sB1 hamB, atI_nat (j := 4) rfl, _, rfl, _, _, _, _, rfl, rfl, sB1.seq hmaB, at_n hz (List.getElem?_eq_getElem hk), _, rfl, _, _, _, _, rfl, rfl, Same.seqT sB1 hsitB, atI_nat (j := 1) rfl, _, ca, mv, cs, M.states, rfl, dp_mono sB1 dmv, sB1.seq hcaB, hfit, fun HD pD sD newD => ?_⟩
        have s1D := sB1.trans sD
        dsimp only [gName]
        -- actual
        refine ⟨_, rfl, _, rfl, _, rfl, _, _, M, k, mv, st0, cs, congrArg (fun z => [V.ref am, V.ref t, V.int z]) hz, dp_mono s1D dMB, Same.sit s1D sitB, hmv, hcan, hfit, fun HE pE sE newE => ?_⟩
        have s1E := s1D.trans sE
        have newE' := newE
        obtain ⟨cE, nE1, nE2, _, eE1, eE2⟩ := newE'
        dsimp only [gName]
        refine orM (ans_not (ansIsi (T := "tuple") (b := true) (fun Q q => ⟨_, rfl, q⟩) (.base (.tup eE1)) (by decide +kernel))) ?_
        refine ⟨_, rfl, _, rfl, _, _, sit_dp newE.sit, sit_dp (Same.sit sE newD.sit), sha, sha, _, rfl, ?_⟩
        rw [nvM eqa]
        refine iteF ?_
        refine orA ?t1 ?_
        case t1 => exact ans_not (ansIsi (T := "list") (b := true) (fun Q q => ⟨_, rfl, _, _, _, _, rfl, rfl, st eE1, atI_nat (j := 1) rfl, q⟩) (.base (.lst eE2)) (by decide +kernel))
        refine ⟨_, rfl, _, rfl, _, _, sit_dp (Same.sit s1E sitB), sit_dp (Same.sit s1E keptB), shp, shp, _, rfl, ?_⟩
        rw [nvM eqv]
        refine iteF ?_
        -- again
        refine ⟨_, rfl, _, rfl, _, rfl, _, _, M, k, mv, st0, cs, congrArg (fun z => [V.ref am, V.ref t, V.int z]) hz, dp_mono s1E dMB, Same.sit s1E sitB, hmv, hcan, hfit, fun HF pF sF newF => ?_⟩
        dsimp only [gName]
        refine ⟨_, rfl, _, rfl, _, _, _, _, rfl, rfl, st (sF _ _ eE1), atI_nat (j := 1) rfl, cE, _, _, 0, rfl, rfl, sF _ _ eE2, ixN_nat (j := 0) (by rw [List.length_map, aft_len]; have := ok.p1; omega), ?_⟩
        have sDG : ∀ u, Same HD (upd HF cE u) := fun u => Same.mut (sE.trans sF) nE2
        have sitF : ∀ u, Sit K (upd HF cE u) (.ref pF) mv.ns (mv.aft cs) := fun u => newF.mut eE2
        refine ⟨_, rfl, _, rfl, _, _, sit_dp (sitF _), sit_dp (Same.sit (sDG _) newD.sit), sha, sha, _, rfl, ?_⟩
        rw [nvM eqa]
        refine iteF ?_
        refine ⟨_, rfl, _, rfl, _, rfl, _, _, M, k, mv, st0, cs, congrArg (fun z => [V.ref am, V.ref t, V.int z]) hz, dp_mono (s1D.trans (sDG _)) dMB, Same.sit (s1D.trans (sDG _)) sitB, hmv, hcan, hfit, fun HI pI sI newI => ?_⟩
        refine ⟨_, rfl, _, _, sit_dp newI.sit, sit_dp (Same.sit ((sDG _).trans sI) newD.sit), sha, sha, _, rfl, ?_⟩
        rw [nvM eqa]
        refine iteF ?_
        exact ⟨_, _, _, _, _, rfl, s1D.trans ((sDG _).trans sI)⟩
    · rintro σ' H1 ⟨w8, w9, w10, w11, w12, rfl, sB1⟩
      have dM1 := dp_mono sB1 dMB
      have sit1 := Same.sit sB1 sitB
      have kept1 := Same.sit sB1 keptB
      have sd1 := sq (K := K) (sB1 _ _ ed2)
      refine ⟨_, rfl, _, _, _, _, rfl, rfl, Same.seqT sB1 hamB, atI_nat (j := 4) rfl, ma, _, rfl, .inl (sB1.seq hmaB), ?_⟩
      dsimp only [gName]
      refine ⟨_, rfl, _, rfl, _, rfl, _, rfl, _, _, _, _, rfl, rfl, sd1, atI_nat (j := 1) rfl, _, _, rfl, rfl, _, _, M, _, st0, cs, rfl, dM1, sit1, .inr (by omega), fun H2' s2' => ⟨true, rfl, iteF ?_⟩⟩
      refine ⟨_, rfl, _, rfl, _, rfl, _, rfl, _, _, _, _, rfl, rfl, s2'.seq sd1, atI_nat (j := 1) rfl, _, _, rfl, rfl, _, _, M, _, st0, cs, rfl, dp_mono s2' dM1, Same.sit s2' sit1, .inl (by omega), fun H3' s3' => ⟨true, rfl, iteF ?_⟩⟩
      have s23' := s2'.trans s3'
      refine ⟨_, rfl, _, rfl, _, _, _, _, rfl, rfl, s23'.seq sd1, atI_nat (j := 1) rfl, _, M, x1, rfl, dp_mono s23' dM1, ok, x10, by omega, fun H4' s4' => ⟨true, rfl, iteF ?_⟩⟩
      have s24' := s23'.trans s4'
      refine ⟨_, rfl, _, rfl, _, rfl, _, _, _, _, rfl, rfl, s24'.seq sd1, atI_nat (j := 1) rfl, _, _, rfl, rfl, _, _, rfl, by omega, ⟨true, rfl, iteF ?_⟩⟩
      refine ⟨_, rfl, _, rfl, _, _, sit_dp (Same.sit s24' sit1), sit_dp (Same.sit s24' kept1), shp, shp, _, rfl, ?_⟩
      rw [nvM eqv]
      refine iteF ?_
      exact ⟨_, _, _, _, _, _, _, _, _, _, _, rfl, s2B.trans (sB1.trans s24')⟩
  · rintro σ' H' ⟨y3, y4, y5, y6, y7, y8, y9, y10, y11, y12, y13, rfl, sm⟩
    refine ⟨_, rfl, _, M, 0, rfl, dp_mono sm dM2, ok, Int.le_refl _, by decide, fun H3 s3 => ⟨_, rfl, iteT ?_⟩⟩
    refine ⟨_, rfl, am, _, rfl, dp_mono (sm.trans s3) dM2, shw.sh, shw.nd, shw.de, shw.ln, _, rfl, rfl, ?_⟩
    rw [decide_eq_true rfl]
    exact q _
end
theorem all_mk {l : PySem.W.OpenLaw} {w : World} {K : PySem.W.Frag} {h : Heap} {mg : Str → Option Value} {fa f1 f2 f3 f4 f5 f6 f7 f8 f9 f10 f11 f12 f13 f14 f15 f16 f17 : Addr} (X : K.In h) (G : h.Ns mainGlobals mg) (hfa : mg "law" = some (.ref fa))
    {od1 an1 od2 an2 od3 an3 od4 an4 od5 an5 od6 an6 od7 an7 od8 an8 od9 an9 od10 an10 od11 an11 od12 an12 od13 an13 od14 an14 od15 an15 od16 an16 od17 an17 : Option Addr} {sl1 sl2 sl3 sl4 sl5 sl6 sl7 sl8 sl9 sl10 sl11 sl12 sl13 sl14 sl15 sl16 sl17 : Array (Option Value)} {oc1 kV1 dc1 pm1 cd1 ct1 oc2 kV2 dc2 pm2 cd2 ct2 oc3 kV3 dc3 pm3 cd3 ct3 oc4 kV4 dc4 pm4 cd4 ct4 oc5 kV5 dc5 pm5 cd5 ct5 oc6 kV6 dc6 pm6 cd6 ct6 oc7 kV7 dc7 pm7 cd7 ct7 oc8 kV8 dc8 pm8 cd8 ct8 oc9 kV9 dc9 pm9 cd9 ct9 oc10 kV10 dc10 pm10 cd10 ct10 oc11 kV11 dc11 pm11 cd11 ct11 oc12 kV12 dc12 pm12 cd12 ct12 oc13 kV13 dc13 pm13 cd13 ct13 oc14 kV14 dc14 pm14 cd14 ct14 oc15 kV15 dc15 pm15 cd15 ct15 oc16 kV16 dc16 pm16 cd16 ct16 oc17 kV17 dc17 pm17 cd17 ct17 : Value}
    (a1 : PySem.W.nsIn K mainGlobals "_law_cell" = some (some (.ref f1))) (l1 : K.lookup f1 = some ⟨oc1, od1, .func (PySem.W.fnOf "_law_cell" "_law_cell" (defArgs s_law_cell) (defBody s_law_cell) (defScope s_law_cell) .none kV1 dc1 pm1 an1 cd1 ct1), sl1⟩) (c1 : PySem.W.codeIn K cd1 "_law_cell" = true) (k1 : PySem.W.keepIn K (.ref f1) = true)
    (a2 : PySem.W.nsIn K mainGlobals "_law_draws" = some (some (.ref f2))) (l2 : K.lookup f2 = some ⟨oc2, od2, .func (PySem.W.fnOf "_law_draws" "_law_draws" (defArgs s_law_draws) (defBody s_law_draws) (defScope s_law_draws) .none kV2 dc2 pm2 an2 cd2 ct2), sl2⟩) (c2 : PySem.W.codeIn K cd2 "_law_draws" = true) (k2 : PySem.W.keepIn K (.ref f2) = true)
    (a3 : PySem.W.nsIn K mainGlobals "move_at" = some (some (.ref f3))) (l3 : K.lookup f3 = some ⟨oc3, od3, .func (PySem.W.fnOf "move_at" "move_at" (defArgs s_move_at) (defBody s_move_at) (defScope s_move_at) .none kV3 dc3 pm3 an3 cd3 ct3), sl3⟩) (c3 : PySem.W.codeIn K cd3 "move_at" = true) (k3 : PySem.W.keepIn K (.ref f3) = true)
    (a4 : PySem.W.nsIn K mainGlobals "can_take" = some (some (.ref f4))) (l4 : K.lookup f4 = some ⟨oc4, od4, .func (PySem.W.fnOf "can_take" "can_take" (defArgs s_can_take) (defBody s_can_take) (defScope s_can_take) .none kV4 dc4 pm4 an4 cd4 ct4), sl4⟩) (c4 : PySem.W.codeIn K cd4 "can_take" = true) (k4 : PySem.W.keepIn K (.ref f4) = true)
    (a5 : PySem.W.nsIn K mainGlobals "after" = some (some (.ref f5))) (l5 : K.lookup f5 = some ⟨oc5, od5, .func (PySem.W.fnOf "after" "after" (defArgs s_after) (defBody s_after) (defScope s_after) .none kV5 dc5 pm5 an5 cd5 ct5), sl5⟩) (c5 : PySem.W.codeIn K cd5 "after" = true) (k5 : PySem.W.keepIn K (.ref f5) = true)
    (a6 : PySem.W.nsIn K mainGlobals "is_possible" = some (some (.ref f6))) (l6 : K.lookup f6 = some ⟨oc6, od6, .func (PySem.W.fnOf "is_possible" "is_possible" (defArgs s_is_possible) (defBody s_is_possible) (defScope s_is_possible) .none kV6 dc6 pm6 an6 cd6 ct6), sl6⟩) (c6 : PySem.W.codeIn K cd6 "is_possible" = true) (k6 : PySem.W.keepIn K (.ref f6) = true)
    (a7 : PySem.W.nsIn K mainGlobals "start_with" = some (some (.ref f7))) (l7 : K.lookup f7 = some ⟨oc7, od7, .func (PySem.W.fnOf "start_with" "start_with" (defArgs s_start_with) (defBody s_start_with) (defScope s_start_with) .none kV7 dc7 pm7 an7 cd7 ct7), sl7⟩) (c7 : PySem.W.codeIn K cd7 "start_with" = true) (k7 : PySem.W.keepIn K (.ref f7) = true)
    (a8 : PySem.W.nsIn K mainGlobals "possible_moves" = some (some (.ref f8))) (l8 : K.lookup f8 = some ⟨oc8, od8, .func (PySem.W.fnOf "possible_moves" "possible_moves" (defArgs s_possible_moves) (defBody s_possible_moves) (defScope s_possible_moves) .none kV8 dc8 pm8 an8 cd8 ct8), sl8⟩) (c8 : PySem.W.codeIn K cd8 "possible_moves" = true) (k8 : PySem.W.keepIn K (.ref f8) = true)
    (a9 : PySem.W.nsIn K mainGlobals "_law_can" = some (some (.ref f9))) (l9 : K.lookup f9 = some ⟨oc9, od9, .func (PySem.W.fnOf "_law_can" "_law_can" (defArgs s_law_can) (defBody s_law_can) (defScope s_law_can) .none kV9 dc9 pm9 an9 cd9 ct9), sl9⟩) (c9 : PySem.W.codeIn K cd9 "_law_can" = true) (k9 : PySem.W.keepIn K (.ref f9) = true)
    (a10 : PySem.W.nsIn K mainGlobals "_law_after" = some (some (.ref f10))) (l10 : K.lookup f10 = some ⟨oc10, od10, .func (PySem.W.fnOf "_law_after" "_law_after" (defArgs s_law_after) (defBody s_law_after) (defScope s_law_after) .none kV10 dc10 pm10 an10 cd10 ct10), sl10⟩) (c10 : PySem.W.codeIn K cd10 "_law_after" = true) (k10 : PySem.W.keepIn K (.ref f10) = true)
    (a11 : PySem.W.nsIn K mainGlobals "_law_pairs" = some (some (.ref f11))) (l11 : K.lookup f11 = some ⟨oc11, od11, .func (PySem.W.fnOf "_law_pairs" "_law_pairs" (defArgs s_law_pairs) (defBody s_law_pairs) (defScope s_law_pairs) .none kV11 dc11 pm11 an11 cd11 ct11), sl11⟩) (c11 : PySem.W.codeIn K cd11 "_law_pairs" = true) (k11 : PySem.W.keepIn K (.ref f11) = true)
    (a12 : PySem.W.nsIn K mainGlobals "_law_machine" = some (some (.ref f12))) (l12 : K.lookup f12 = some ⟨oc12, od12, .func (PySem.W.fnOf "_law_machine" "_law_machine" (defArgs s_law_machine) (defBody s_law_machine) (defScope s_law_machine) .none kV12 dc12 pm12 an12 cd12 ct12), sl12⟩) (c12 : PySem.W.codeIn K cd12 "_law_machine" = true) (k12 : PySem.W.keepIn K (.ref f12) = true)
    (a13 : PySem.W.nsIn K mainGlobals "_law_not_possible" = some (some (.ref f13))) (l13 : K.lookup f13 = some ⟨oc13, od13, .func (PySem.W.fnOf "_law_not_possible" "_law_not_possible" (defArgs s_law_not_possible) (defBody s_law_not_possible) (defScope s_law_not_possible) .none kV13 dc13 pm13 an13 cd13 ct13), sl13⟩) (c13 : PySem.W.codeIn K cd13 "_law_not_possible" = true) (k13 : PySem.W.keepIn K (.ref f13) = true)
    (a14 : PySem.W.nsIn K mainGlobals "_law_no_crew" = some (some (.ref f14))) (l14 : K.lookup f14 = some ⟨oc14, od14, .func (PySem.W.fnOf "_law_no_crew" "_law_no_crew" (defArgs s_law_no_crew) (defBody s_law_no_crew) (defScope s_law_no_crew) .none kV14 dc14 pm14 an14 cd14 ct14), sl14⟩) (c14 : PySem.W.codeIn K cd14 "_law_no_crew" = true) (k14 : PySem.W.keepIn K (.ref f14) = true)
    (a15 : PySem.W.nsIn K mainGlobals "_law_no_move" = some (some (.ref f15))) (l15 : K.lookup f15 = some ⟨oc15, od15, .func (PySem.W.fnOf "_law_no_move" "_law_no_move" (defArgs s_law_no_move) (defBody s_law_no_move) (defScope s_law_no_move) .none kV15 dc15 pm15 an15 cd15 ct15), sl15⟩) (c15 : PySem.W.codeIn K cd15 "_law_no_move" = true) (k15 : PySem.W.keepIn K (.ref f15) = true)
    (a16 : PySem.W.nsIn K mainGlobals "_law_started" = some (some (.ref f16))) (l16 : K.lookup f16 = some ⟨oc16, od16, .func (PySem.W.fnOf "_law_started" "_law_started" (defArgs s_law_started) (defBody s_law_started) (defScope s_law_started) .none kV16 dc16 pm16 an16 cd16 ct16), sl16⟩) (c16 : PySem.W.codeIn K cd16 "_law_started" = true) (k16 : PySem.W.keepIn K (.ref f16) = true)
    (a17 : PySem.W.nsIn K mainGlobals "law" = some (some (.ref f17))) (l17 : K.lookup f17 = some ⟨oc17, od17, .func (PySem.W.fnOf "law" "law" (defArgs s_law) (defBody s_law) (defScope s_law) .none kV17 dc17 pm17 an17 cd17 ct17), sl17⟩) (c17 : PySem.W.codeIn K cd17 "law" = true) (k17 : PySem.W.keepIn K (.ref f17) = true)
    {CL CO CN CB : Addr}
    (xgL : PySem.W.nsIn K mainGlobals "LegionError" = some (some (.ref CL))) (xxL : PySem.W.excIn K CL [.type "ValueError", .type "Exception", .type "BaseException", .type "object"] "ValueError.__new__" = true) (xkL : PySem.W.keepIn K (.ref CL) = true) (xtL : PySem.W.typeIn K (.ref CL) = some (.type "type")) (xiL : PySem.W.isClsIn K CL = true) (xsL : PySem.W.subIn K (.ref CL) (.ref CL) = some true) (xvL : PySem.W.subIn K (.ref CL) (.type "ValueError") = some true) (xaL : PySem.W.findIn K (.ref CL) "__getattribute__" = some (some (.builtin "BaseException.__getattribute__"))) (xbL : PySem.W.findIn K (.ref CL) "__getattr__" = some none) (xcL : PySem.W.subIn K (.ref CL) (.type "BaseException") = some true) (xdL : PySem.W.hasDictIn K CL = true) (xeL : PySem.W.findIn K (.ref CL) "__class__" = some (some (.builtin "object.__class__"))) (xmL : PySem.W.mroIn K CL (.type "object") = some true) (xgO : PySem.W.nsIn K mainGlobals "OutOfRange" = some (some (.ref CO))) (xxO : PySem.W.excIn K CO [.type "ValueError", .type "Exception", .type "BaseException", .type "object"] "ValueError.__new__" = true) (xkO : PySem.W.keepIn K (.ref CO) = true) (xtO : PySem.W.typeIn K (.ref CO) = some (.type "type")) (xiO : PySem.W.isClsIn K CO = true) (xsO : PySem.W.subIn K (.ref CO) (.ref CO) = some true) (xvO : PySem.W.subIn K (.ref CO) (.type "ValueError") = some true) (xaO : PySem.W.findIn K (.ref CO) "__getattribute__" = some (some (.builtin "BaseException.__getattribute__"))) (xbO : PySem.W.findIn K (.ref CO) "__getattr__" = some none) (xcO : PySem.W.subIn K (.ref CO) (.type "BaseException") = some true) (xdO : PySem.W.hasDictIn K CO = true) (xeO : PySem.W.findIn K (.ref CO) "__class__" = some (some (.builtin "object.__class__"))) (xmO : PySem.W.mroIn K CO (.type "object") = some true) (xgN : PySem.W.nsIn K mainGlobals "NotPossible" = some (some (.ref CN))) (xxN : PySem.W.excIn K CN [.type "ValueError", .type "Exception", .type "BaseException", .type "object"] "ValueError.__new__" = true) (xkN : PySem.W.keepIn K (.ref CN) = true) (xtN : PySem.W.typeIn K (.ref CN) = some (.type "type")) (xiN : PySem.W.isClsIn K CN = true) (xsN : PySem.W.subIn K (.ref CN) (.ref CN) = some true) (xvN : PySem.W.subIn K (.ref CN) (.type "ValueError") = some true) (xaN : PySem.W.findIn K (.ref CN) "__getattribute__" = some (some (.builtin "BaseException.__getattribute__"))) (xbN : PySem.W.findIn K (.ref CN) "__getattr__" = some none) (xcN : PySem.W.subIn K (.ref CN) (.type "BaseException") = some true) (xdN : PySem.W.hasDictIn K CN = true) (xeN : PySem.W.findIn K (.ref CN) "__class__" = some (some (.builtin "object.__class__"))) (xmN : PySem.W.mroIn K CN (.type "object") = some true) (xgB : PySem.W.nsIn K mainGlobals "BadMachine" = some (some (.ref CB))) (xxB : PySem.W.excIn K CB [.type "ValueError", .type "Exception", .type "BaseException", .type "object"] "ValueError.__new__" = true) (xkB : PySem.W.keepIn K (.ref CB) = true) (xtB : PySem.W.typeIn K (.ref CB) = some (.type "type")) (xiB : PySem.W.isClsIn K CB = true) (xsB : PySem.W.subIn K (.ref CB) (.ref CB) = some true) (xvB : PySem.W.subIn K (.ref CB) (.type "ValueError") = some true) (xaB : PySem.W.findIn K (.ref CB) "__getattribute__" = some (some (.builtin "BaseException.__getattribute__"))) (xbB : PySem.W.findIn K (.ref CB) "__getattr__" = some none) (xcB : PySem.W.subIn K (.ref CB) (.type "BaseException") = some true) (xdB : PySem.W.hasDictIn K CB = true) (xeB : PySem.W.findIn K (.ref CB) "__class__" = some (some (.builtin "object.__class__"))) (xmB : PySem.W.mroIn K CB (.type "object") = some true)
    (xn : PySem.W.specialIn K (.builtin "object.__class__") "__get__" = some (some (.builtin "getset_descriptor.__get__"))) (xh : PySem.W.takesIn K (.builtin "object.__class__") = some true)
    (rOL : PySem.W.subIn K (.ref CO) (.ref CL) = some true) (rON : PySem.W.subIn K (.ref CO) (.ref CN) = some false) (rOB : PySem.W.subIn K (.ref CO) (.ref CB) = some false) (rNL : PySem.W.subIn K (.ref CN) (.ref CL) = some true) (rNO : PySem.W.subIn K (.ref CN) (.ref CO) = some false) (rNB : PySem.W.subIn K (.ref CN) (.ref CB) = some false) (rBL : PySem.W.subIn K (.ref CB) (.ref CL) = some true) (rBO : PySem.W.subIn K (.ref CB) (.ref CO) = some false) (rBN : PySem.W.subIn K (.ref CB) (.ref CN) = some false)
    (z_len : PySem.W.nsIn K mainGlobals "len" = some none) (z_int : PySem.W.nsIn K mainGlobals "int" = some none) (z_abs : PySem.W.nsIn K mainGlobals "abs" = some none) (z_range : PySem.W.nsIn K mainGlobals "range" = some none) (z_min : PySem.W.nsIn K mainGlobals "min" = some none) (z_str : PySem.W.nsIn K mainGlobals "str" = some none) (z_isinstance : PySem.W.nsIn K mainGlobals "isinstance" = some none) (z_bool : PySem.W.nsIn K mainGlobals "bool" = some none) (z_dict : PySem.W.nsIn K mainGlobals "dict" = some none) (z_sum : PySem.W.nsIn K mainGlobals "sum" = some none) (z_list : PySem.W.nsIn K mainGlobals "list" = some none) (z_tuple : PySem.W.nsIn K mainGlobals "tuple" = some none) (z_repr : PySem.W.nsIn K mainGlobals "repr" = some none) (z_sorted : PySem.W.nsIn K mainGlobals "sorted" = some none) (z_enumerate : PySem.W.nsIn K mainGlobals "enumerate" = some none) (z_zip : PySem.W.nsIn K mainGlobals "zip" = some none) (z_all : PySem.W.nsIn K mainGlobals "all" = some none) (z_max : PySem.W.nsIn K mainGlobals "max" = some none) (z_set : PySem.W.nsIn K mainGlobals "set" = some none) (z_ValueError : PySem.W.nsIn K mainGlobals "ValueError" = some none) :
    ∀ base : Heap, K.In base → base.Ns mainGlobals mg → TopOk l.prog w K mg base fa (spLaw K) := by
  have e := hfa.symm.trans (PySem.W.mg_of X G a17)
  cases e
  have F1 := fun_mk (st := s_law_cell) l1 c1 k1
  have F2 := fun_mk (st := s_law_draws) l2 c2 k2
  have F3 := fun_mk (st := s_move_at) l3 c3 k3
  have F4 := fun_mk (st := s_can_take) l4 c4 k4
  have F5 := fun_mk (st := s_after) l5 c5 k5
  have F6 := fun_mk (st := s_is_possible) l6 c6 k6
  have F7 := fun_mk (st := s_start_with) l7 c7 k7
  have F8 := fun_mk (st := s_possible_moves) l8 c8 k8
  have F9 := fun_mk (st := s_law_can) l9 c9 k9
  have F10 := fun_mk (st := s_law_after) l10 c10 k10
  have F11 := fun_mk (st := s_law_pairs) l11 c11 k11
  have F12 := fun_mk (st := s_law_machine) l12 c12 k12
  have F13 := fun_mk (st := s_law_not_possible) l13 c13 k13
  have F14 := fun_mk (st := s_law_no_crew) l14 c14 k14
  have F15 := fun_mk (st := s_law_no_move) l15 c15 k15
  have F16 := fun_mk (st := s_law_started) l16 c16 k16
  have F17 := fun_mk (st := s_law) l17 c17 k17
  have B : Bt mg := { len := PySem.W.mg_none_of X G z_len, int := PySem.W.mg_none_of X G z_int, abs := PySem.W.mg_none_of X G z_abs, range := PySem.W.mg_none_of X G z_range, min := PySem.W.mg_none_of X G z_min, str := PySem.W.mg_none_of X G z_str, isinstance := PySem.W.mg_none_of X G z_isinstance, bool := PySem.W.mg_none_of X G z_bool, dict := PySem.W.mg_none_of X G z_dict, sum := PySem.W.mg_none_of X G z_sum, list := PySem.W.mg_none_of X G z_list, tuple := PySem.W.mg_none_of X G z_tuple, repr := PySem.W.mg_none_of X G z_repr, sorted := PySem.W.mg_none_of X G z_sorted, enumerate := PySem.W.mg_none_of X G z_enumerate, zip := PySem.W.mg_none_of X G z_zip, all := PySem.W.mg_none_of X G z_all, max := PySem.W.mg_none_of X G z_max, set := PySem.W.mg_none_of X G z_set, ValueError := PySem.W.mg_none_of X G z_ValueError }
  have XL : ExcX K mg "LegionError" CL := ⟨PySem.W.mg_of X G xgL, xxL, xkL, xtL, xiL, xsL, xvL, ⟨xaL, xbL, xcL, xdL, xeL, xn, xh, xmL⟩⟩
  have XO : ExcX K mg "OutOfRange" CO := ⟨PySem.W.mg_of X G xgO, xxO, xkO, xtO, xiO, xsO, xvO, ⟨xaO, xbO, xcO, xdO, xeO, xn, xh, xmO⟩⟩
  have XN : ExcX K mg "NotPossible" CN := ⟨PySem.W.mg_of X G xgN, xxN, xkN, xtN, xiN, xsN, xvN, ⟨xaN, xbN, xcN, xdN, xeN, xn, xh, xmN⟩⟩
  have XB : ExcX K mg "BadMachine" CB := ⟨PySem.W.mg_of X G xgB, xxB, xkB, xtB, xiB, xsB, xvB, ⟨xaB, xbB, xcB, xdB, xeB, xn, xh, xmB⟩⟩
  intro base _ _
  have D_law_cell := fd_law_cell (P := l.prog) (w := w) (base := base) F1 (PySem.W.mg_of X G a1) B
  have D_law_draws := fd_law_draws (P := l.prog) (w := w) (base := base) F2 (PySem.W.mg_of X G a2) B
  have D_move_at := fd_move_at (P := l.prog) (w := w) (base := base) F3 (PySem.W.mg_of X G a3) B
  have D_can_take := fd_can_take (P := l.prog) (w := w) (base := base) F4 (PySem.W.mg_of X G a4) B
  have D_after := fd_after (P := l.prog) (w := w) (base := base) F5 (PySem.W.mg_of X G a5) B D_move_at D_can_take
  have D_is_possible := fd_is_possible (P := l.prog) (w := w) (base := base) F6 (PySem.W.mg_of X G a6) D_move_at D_can_take
  have D_start_with := fd_start_with (P := l.prog) (w := w) (base := base) F7 (PySem.W.mg_of X G a7) B
  have D_possible_moves := fd_possible_moves (P := l.prog) (w := w) (base := base) F8 (PySem.W.mg_of X G a8) B D_can_take
  have D_law_can := fd_law_can (P := l.prog) (w := w) (base := base) F9 (PySem.W.mg_of X G a9) B
  have D_law_after := fd_law_after (P := l.prog) (w := w) (base := base) F10 (PySem.W.mg_of X G a10) B
  have D_law_pairs := fd_law_pairs (P := l.prog) (w := w) (base := base) F11 (PySem.W.mg_of X G a11) B D_law_draws
  have D_law_machine := fd_law_machine (P := l.prog) (w := w) (base := base) F12 (PySem.W.mg_of X G a12) B D_law_draws D_law_pairs
  have DX_move_at := fdX_move_at (P := l.prog) (w := w) (base := base) F3 (PySem.W.mg_of X G a3) B XO
  have DX_is_possible := fdX_is_possible (P := l.prog) (w := w) (base := base) F6 (PySem.W.mg_of X G a6) DX_move_at D_can_take
  have DX_start_with := fdX_start_with (P := l.prog) (w := w) (base := base) F7 (PySem.W.mg_of X G a7) B XO
  have DX_after := fdX_after (P := l.prog) (w := w) (base := base) F5 (PySem.W.mg_of X G a5) B XN DX_move_at D_move_at D_can_take
  have D_law_not_possible := fd_law_not_possible (P := l.prog) (w := w) (base := base) F13 (PySem.W.mg_of X G a13) B ⟨XL, XO, XN, XB, rOL, rON, rOB, rNL, rNO, rNB⟩ DX_after
  have D_law_no_crew := fd_law_no_crew (P := l.prog) (w := w) (base := base) F14 (PySem.W.mg_of X G a14) B ⟨XL, XO, XN, XB, rOL, rON, rOB, rNL, rNO, rNB⟩ DX_start_with
  have D_law_no_move := fd_law_no_move (P := l.prog) (w := w) (base := base) F15 (PySem.W.mg_of X G a15) B ⟨XL, XO, XN, XB, rOL, rON, rOB, rNL, rNO, rNB⟩ DX_is_possible DX_after
  have D_law_started := fd_law_started (P := l.prog) (w := w) (base := base) F16 (PySem.W.mg_of X G a16) B D_start_with
  exact fd_law F17 (PySem.W.mg_of X G a17) (fun s v => .of_eq rfl) B D_law_cell D_law_draws D_law_machine D_law_after D_law_can D_law_no_move D_law_not_possible D_law_no_crew D_law_started D_possible_moves D_is_possible D_after
end My
open PySem PySem.W PyProof.Rows
set_option maxRecDepth 100000 in
set_option maxHeartbeats 0 in
theorem PySem.Challenge.cw_legion_k18_moves_of_situations_holds : PySem.Challenge.rw_legion_k18_moves_of_situations.Holds := by
  w_on; o_law; k_head; (case hw => w_witness2)
  k_fill
  refine My.walk_top (l := PySem.Challenge.rw_legion_k18_moves_of_situations) (n := 63) (sp := fun w => My.spLaw _) rfl (by decide) rfl (fun w h Y => PySem.W.kIn_of Y) ?F (fun _ _ a ns hl hS => ⟨a, ns, rfl, hS, hl, fun _ => rfl⟩)
  case F =>
    intro w mg fa h KX G hmg
    refine' My.all_mk KX G hmg ?a1 ?l1 ?c1 ?k1 ?a2 ?l2 ?c2 ?k2 ?a3 ?l3 ?c3 ?k3 ?a4 ?l4 ?c4 ?k4 ?a5 ?l5 ?c5 ?k5 ?a6 ?l6 ?c6 ?k6 ?a7 ?l7 ?c7 ?k7 ?a8 ?l8 ?c8 ?k8 ?a9 ?l9 ?c9 ?k9 ?a10 ?l10 ?c10 ?k10 ?a11 ?l11 ?c11 ?k11 ?a12 ?l12 ?c12 ?k12 ?a13 ?l13 ?c13 ?k13 ?a14 ?l14 ?c14 ?k14 ?a15 ?l15 ?c15 ?k15 ?a16 ?l16 ?c16 ?k16 ?a17 ?l17 ?c17 ?k17 ?xgL ?xxL ?xkL ?xtL ?xiL ?xsL ?xvL ?xaL ?xbL ?xcL ?xdL ?xeL ?xmL ?xgO ?xxO ?xkO ?xtO ?xiO ?xsO ?xvO ?xaO ?xbO ?xcO ?xdO ?xeO ?xmO ?xgN ?xxN ?xkN ?xtN ?xiN ?xsN ?xvN ?xaN ?xbN ?xcN ?xdN ?xeN ?xmN ?xgB ?xxB ?xkB ?xtB ?xiB ?xsB ?xvB ?xaB ?xbB ?xcB ?xdB ?xeB ?xmB ?xn ?xh ?rOL ?rON ?rOB ?rNL ?rNO ?rNB ?rBL ?rBO ?rBN ?z_len ?z_int ?z_abs ?z_range ?z_min ?z_str ?z_isinstance ?z_bool ?z_dict ?z_sum ?z_list ?z_tuple ?z_repr ?z_sorted ?z_enumerate ?z_zip ?z_all ?z_max ?z_set ?z_ValueError
    (case xgL => k_is)
    (case xxL => k_exc)
    (case xkL => k_is)
    (case xtL => k_is)
    (case xiL => k_is)
    (case xsL => k_is)
    (case xvL => k_is)
    (case xaL => k_is)
    (case xbL => k_is)
    (case xcL => k_is)
    (case xdL => k_is)
    (case xeL => k_is)
    (case xmL => k_is)
    (case xgO => k_is)
    (case xxO => k_exc)
    (case xkO => k_is)
    (case xtO => k_is)
    (case xiO => k_is)
    (case xsO => k_is)
    (case xvO => k_is)
    (case xaO => k_is)
    (case xbO => k_is)
    (case xcO => k_is)
    (case xdO => k_is)
    (case xeO => k_is)
    (case xmO => k_is)
    (case xgN => k_is)
    (case xxN => k_exc)
    (case xkN => k_is)
    (case xtN => k_is)
    (case xiN => k_is)
    (case xsN => k_is)
    (case xvN => k_is)
    (case xaN => k_is)
    (case xbN => k_is)
    (case xcN => k_is)
    (case xdN => k_is)
    (case xeN => k_is)
    (case xmN => k_is)
    (case xgB => k_is)
    (case xxB => k_exc)
    (case xkB => k_is)
    (case xtB => k_is)
    (case xiB => k_is)
    (case xsB => k_is)
    (case xvB => k_is)
    (case xaB => k_is)
    (case xbB => k_is)
    (case xcB => k_is)
    (case xdB => k_is)
    (case xeB => k_is)
    (case xmB => k_is)
    (case xn => k_is)
    (case xh => k_is)
    (case rOL => k_is)
    (case rON => k_is)
    (case rOB => k_is)
    (case rNL => k_is)
    (case rNO => k_is)
    (case rNB => k_is)
    (case rBL => k_is)
    (case rBO => k_is)
    (case rBN => k_is)
    (case a1 => k_is); (case l1 => k_is); (case c1 => k_is); (case k1 => k_is)
    (case a2 => k_is); (case l2 => k_is); (case c2 => k_is); (case k2 => k_is)
    (case a3 => k_is); (case l3 => k_is); (case c3 => k_is); (case k3 => k_is)
    (case a4 => k_is); (case l4 => k_is); (case c4 => k_is); (case k4 => k_is)
    (case a5 => k_is); (case l5 => k_is); (case c5 => k_is); (case k5 => k_is)
    (case a6 => k_is); (case l6 => k_is); (case c6 => k_is); (case k6 => k_is)
    (case a7 => k_is); (case l7 => k_is); (case c7 => k_is); (case k7 => k_is)
    (case a8 => k_is); (case l8 => k_is); (case c8 => k_is); (case k8 => k_is)
    (case a9 => k_is); (case l9 => k_is); (case c9 => k_is); (case k9 => k_is)
    (case a10 => k_is); (case l10 => k_is); (case c10 => k_is); (case k10 => k_is)
    (case a11 => k_is); (case l11 => k_is); (case c11 => k_is); (case k11 => k_is)
    (case a12 => k_is); (case l12 => k_is); (case c12 => k_is); (case k12 => k_is)
    (case a13 => k_is); (case l13 => k_is); (case c13 => k_is); (case k13 => k_is)
    (case a14 => k_is); (case l14 => k_is); (case c14 => k_is); (case k14 => k_is)
    (case a15 => k_is); (case l15 => k_is); (case c15 => k_is); (case k15 => k_is)
    (case a16 => k_is); (case l16 => k_is); (case c16 => k_is); (case k16 => k_is)
    (case a17 => k_is); (case l17 => k_is); (case c17 => k_is); (case k17 => k_is)
    (case z_len => k_is); (case z_int => k_is); (case z_abs => k_is); (case z_range => k_is); (case z_min => k_is); (case z_str => k_is); (case z_isinstance => k_is); (case z_bool => k_is); (case z_dict => k_is); (case z_sum => k_is); (case z_list => k_is); (case z_tuple => k_is); (case z_repr => k_is); (case z_sorted => k_is); (case z_enumerate => k_is); (case z_zip => k_is); (case z_all => k_is); (case z_max => k_is); (case z_set => k_is); (case z_ValueError => k_is)
